/- What Check answers of the tables that SchemaLimits makes. -/
import Derived.Test.YtampkmmfkdekaaaDoorSchLm
namespace Go.Proofs.YtampkmmfkdekaaaDoor
open Go.RowKit

theorem flat3 {α : Type} [Inhabited α] (f : α → List Value) (hf : ∀ x, (f x).length = 3) (l : List α) : ∀ i, i < l.length → ∀ o, o < 3 → (l.flatMap f)[i * 3 + o]? = (f (l.getD i default))[o]? := by
  induction l with
  | nil => intro i hi; simp at hi
  | cons x l ih =>
    intro i hi o ho
    rw [List.flatMap_cons]
    match i, hi with
    | 0, _ =>
      rw [List.getElem?_append_left (by rw [hf]; omega)]
      simp
    | i + 1, hi =>
      rw [List.getElem?_append_right (by rw [hf]; omega), hf, show (i + 1) * 3 + o - 3 = i * 3 + o by omega, ih i (by simpa using hi) o ho]
      simp [List.getD]
theorem own_cells3 {w : World} {B n cap : Nat} {e : TypeId} {a : Option Addr} {xs : List Value} (h : w.ownsRow B e 3 (.slice a n cap) n xs) : n ≤ cap ∧ (n = 0 ∨ ∃ g, a = some ⟨g, 0, none⟩ ∧ B ≤ g ∧ g < w.heap.size ∧ (∃ cs, w.heap[g]? = some (.cells cs e (0, 0))) ∧ ∀ j u, xs[j]? = some u → w.cell? ⟨g, j, none⟩ = some u) := by
  have hc := fun g hg => World.ownsRow.cells h (g := g) hg
  rcases h.2 with ⟨hv, h0⟩ | ⟨g, cc, cur, hv, hb, hg, hcc, _⟩
  · exact ⟨by omega, .inl h0⟩
  · cases hv
    refine ⟨hcc, .inr ⟨g, rfl, hb, (World.ownsRow.lt h g rfl).2, ⟨cur, hg⟩, fun j u hj => ?_⟩⟩
    have := hc g rfl j u hj
    rwa [Addr.add_mid, Nat.zero_add] at this
theorem names_ok : ∀ i, i < 11 → nameB (tName i) = true ∧ nameB (cName i) = true := by decide +kernel
theorem names_apart : ∀ i, i < 11 → ∀ j, j < i → ((tName j).toList == (tName i).toList) = false ∧ ((cName j).toList == (cName i).toList) = false := by decide +kernel
theorem colsL_at {q i : Nat} (h : i < q) : (colsL q).getD i default = colK i := by simp [colsL, List.getD, h]
theorem colsL_len (q : Nat) : (colsL q).length = q := by simp [colsL]
theorem cols_at6 {w : World} {B q cap : Nat} {a : Option Addr} (hq : q ≤ 10) (h : w.ownsRow B 39 3 (.slice a q cap) q (colsC q)) : ColsAt w.heap.size w a (colsL q) := by
  refine ⟨by rw [colsL_len]; omega, ?_⟩
  rcases (own_cells3 h).2 with h0 | ⟨g, e, _, hlt, _, hc⟩
  · exact .inl (by rw [h0]; rfl)
  · refine .inr ⟨g, 0, e, hlt, fun i hi => ?_⟩
    have f := flat3 colC (fun _ => rfl) (colsL q) i hi
    have f0 := f 0 (by omega)
    have f1 := f 1 (by omega)
    have f2 := f 2 (by omega)
    simp only [Nat.zero_add]
    exact ⟨hc _ _ (by rw [Nat.add_zero] at f0; exact f0.trans rfl), hc _ _ (f1.trans rfl), hc _ _ (f2.trans rfl)⟩
/-- The tables, the last of them with a key of its own. -/
structure Keyed (M n : Nat) (K : Int) (ts : List Tb) : Prop where
  len : ts.length = n
  at_ : ∀ j, j < n → (ts.getD j default).n = tName j ∧ (ts.getD j default).l = colsL M ∧ M ≤ (ts.getD j default).cap
  k1 : ∀ j, j + 1 < n → (ts.getD j default).k = 1
  kn : ∀ j, j + 1 = n → (ts.getD j default).k = K
theorem Keyed.good {M n : Nat} {K : Int} {ts : List Tb} (h : Keyed M n K ts) (_hn : n < 9) (hM1 : 1 ≤ M) (hM : M ≤ 8) {i : Nat} (hi : i < n) (h6 : i < 6) (hk : i + 1 < n ∨ (1 ≤ K ∧ K ≤ M)) : TabGood ts i (ts.getD i default) := by
  obtain ⟨e1, e2, e3⟩ := h.at_ i hi
  have hK : (1 : Int) ≤ (ts.getD i default).k ∧ (ts.getD i default).k ≤ M := by
    by_cases hl : i + 1 < n
    · rw [h.k1 i hl]; omega
    · rw [h.kn i (by omega)]
      rcases hk with hk | hk
      · omega
      · exact hk
  refine ⟨h6, by rw [e2, colsL_len]; exact hM1, by rw [e2, colsL_len]; exact hM, by rw [e1]; exact (names_ok i (by omega)).1, hK.1, by rw [e2, colsL_len]; exact hK.2, fun j hj => ?_, fun j hj => ?_, fun a ha b hb => ?_, by rw [e2, colsL_len]; exact e3⟩
  · rw [e2, colsL_len] at hj
    rw [e2, colsL_at hj]
    exact ⟨(names_ok j (by omega)).2, .inr (.inl rfl), fun _ => rfl⟩
  · rw [e1, (h.at_ j (by omega)).1]
    exact (names_apart i (by omega) j hj).1
  · rw [e2, colsL_len] at ha
    rw [e2, colsL_at ha, colsL_at (by omega)]
    exact (names_apart a (by omega) b hb).2
theorem Tabs6.tabsOf {M n pc : Nat} {pa : Option Addr} {ts : List Tb} {w1 w : World} (h : Tabs6 M n pc pa ts w1 w) : ∀ t ∈ ts, t.l = colsL M := fun t ht => by
  obtain ⟨i, hi, rfl⟩ := List.getElem_of_mem ht
  have := (h.at_ i (by rw [← h.len]; exact hi)).2.1
  simpa [List.getD, hi] using this
/-- The last table's key is stored. -/
theorem Tabs6.store {M q pc : Nat} {pa : Option Addr} {ts : List Tb} {w1 w : World} (h : Tabs6 M (q + 1) pc pa ts w1 w) (hq : q < 8) (hM : M ≤ 10) (K : Int) :
    ∃ g ts', pa = some ⟨g, 0, none⟩ ∧ w1.heap.size ≤ g ∧ w.cell? ⟨g, q * 3 + 2, none⟩ = some (.int .i64 1) ∧ w.frozen? ⟨g, q * 3 + 2, none⟩ = false ∧ Keyed M (q + 1) K ts' ∧ TabsAt (w.setCell ⟨g, q * 3 + 2, none⟩ (.int .i64 K)).heap.size (w.setCell ⟨g, q * 3 + 2, none⟩ (.int .i64 K)) pa ts' := by
  rcases (own_cells3 h.own3).2 with h0 | ⟨g, rfl, hB, hlt, ⟨cs, hcs⟩, hc⟩
  · omega
  have hlen := h.len
  have hql : q < ts.length := by omega
  have fl := fun i (hi : i < ts.length) => flat3 tbC (fun _ => rfl) ts i hi
  obtain ⟨a1, a2, a3, a4⟩ := h.at_ q (by omega)
  have cq : w.cell? ⟨g, q * 3 + 2, none⟩ = some (.int .i64 1) := hc _ _ ((fl q hql 2 (by omega)).trans (by rw [← a3]; rfl))
  have gs : w.grownBy (w.setCell ⟨g, q * 3 + 2, none⟩ (.int .i64 K)) (some g) := grown_set1 (grown_refl6 w (some g)) _ _
  have hget : ∀ i, (ts.set q { ts.getD q default with k := K }).getD i default = if i = q then { ts.getD q default with k := K } else ts.getD i default := fun i => by
    by_cases e : i = q
    · subst e; simp [List.getD, hql]
    · simp [List.getD, e, List.getElem?_set_ne (Ne.symm e)]
  refine ⟨g, ts.set q { ts.getD q default with k := K }, rfl, hB, cq, by simp [World.frozen?, hcs], ⟨by simp [hlen], fun j hj => ?_, fun j hj => ?_, fun j hj => ?_⟩, by simp [hlen]; omega, fun t ht => ?_, .inr ⟨g, 0, rfl, Nat.lt_of_lt_of_le hlt gs.size, fun i hi => ?_⟩⟩
  · rw [hget]
    obtain ⟨b1, b2, b3, b4⟩ := h.at_ j hj
    split
    · exact ⟨by rw [‹j = q›]; exact a1, a2, a4⟩
    · exact ⟨b1, b2, b4⟩
  · rw [hget, if_neg (by omega)]
    exact (h.at_ j (by omega)).2.2.1
  · rw [hget, if_pos (by omega)]
  · have hcol : ∀ t ∈ ts, ColsAt (w.setCell ⟨g, q * 3 + 2, none⟩ (.int .i64 K)).heap.size (w.setCell ⟨g, q * 3 + 2, none⟩ (.int .i64 K)) t.a (colsL M) := fun t ht =>
      cols_at6 hM (World.ownsRow.kept (h.cols t ht) gs (own_apart (h.cols t ht) h.own3 (by decide)))
    rcases List.mem_or_eq_of_mem_set ht with ht | rfl
    · rw [h.tabsOf t ht]; exact hcol t ht
    · have hm : ts.getD q default ∈ ts := tb_mem hql
      show ColsAt _ _ (ts.getD q default).a (ts.getD q default).l
      rw [a2]
      exact hcol _ hm
  · have hi' : i < ts.length := by simpa using hi
    have f0 := fl i hi' 0 (by omega)
    have f1 := fl i hi' 1 (by omega)
    have f2 := fl i hi' 2 (by omega)
    have d0 : w.cell? ⟨g, i * 3, none⟩ = some (.string (ts.getD i default).n) := hc _ _ (by rw [Nat.add_zero] at f0; exact f0.trans rfl)
    have d1 : w.cell? ⟨g, i * 3 + 1, none⟩ = some (.slice (ts.getD i default).a (ts.getD i default).l.length (ts.getD i default).cap) := hc _ _ (f1.trans rfl)
    have d2 : w.cell? ⟨g, i * 3 + 2, none⟩ = some (.int .i64 (ts.getD i default).k) := hc _ _ (f2.trans rfl)
    simp only [Nat.zero_add]
    rw [World.cell?_setCell_other w ⟨g, q * 3 + 2, none⟩ ⟨g, i * 3, none⟩ _ (by simp <;> omega), World.cell?_setCell_other w ⟨g, q * 3 + 2, none⟩ ⟨g, i * 3 + 1, none⟩ _ (by simp <;> omega), d0, d1, hget]
    by_cases e : i = q
    · subst e
      rw [if_pos rfl, World.cell?_setCell_same' _ _ _ (by rw [cq]; rfl)]
      exact ⟨rfl, rfl, rfl⟩
    · rw [if_neg e, World.cell?_setCell_other w ⟨g, q * 3 + 2, none⟩ ⟨g, i * 3 + 2, none⟩ _ (by simp <;> omega), d2]
      exact ⟨rfl, rfl, rfl⟩
structure Errs (G : Nat) (w : World) : Prop where
  t : ErrT G w
  many : ∃ ty p, w.cell? ⟨1, 0, none⟩ = some (.iface ty p)
  width : ∃ ty p, w.cell? ⟨2, 0, none⟩ = some (.iface ty p)
  keys : ∃ ty p, w.cell? ⟨4, 0, none⟩ = some (.iface ty p)
theorem Errs.grown {G : Nat} {w w' : World} (h : Errs G w) (hg : w.grownBy w' none) : Errs G w' :=
  ⟨h.t.grown hg, h.many.imp fun _ q => q.imp fun _ q => hg.cell q (by simp), h.width.imp fun _ q => q.imp fun _ q => hg.cell q (by simp), h.keys.imp fun _ q => q.imp fun _ q => hg.cell q (by simp)⟩
abbrev Says6 (pa : Option Addr) (n pc : Nat) (w : World) (r c : Int) : Prop :=
  Calls Tryd.prog 9 #[.slice pa n pc] w fun e w' => e = .returned (.tuple #[.int .i64 r, .int .i64 c]) ∧ w.grownBy w' none
theorem chk_wide {G M n pc : Nat} {K : Int} {pa : Option Addr} {ts : List Tb} {w : World} (hE : Errs G w) (h : TabsAt w.heap.size w pa ts) (hc : n ≤ pc) (hk : Keyed M n K ts) (hn : 0 < n) (hM : 8 < M) : Says6 pa n pc w ((0 : Nat) : Int) 3 := by
  obtain ⟨ty, p, hw⟩ := hE.width
  refine check_bad pa n pc G _ 3 ty p w hE.t (fun W hW => ?_)
  have := review_full pa pc ts W ((h.keep hW (by simp)).mono hW.size) (by rw [hk.len]; exact hc) 0 (by rw [hk.len]; exact hn) (fun i hi => by omega) ty p (fun W' hW' => full_wide 0 _ _ _ _ _ ty p W' (by omega) (by rw [(hk.at_ 0 hn).2.1, colsL_len]; exact hM) ((hW.trans hW').cell hw (by simp)))
  rw [hk.len] at this
  exact this
theorem chk_many {G M n pc : Nat} {K : Int} {pa : Option Addr} {ts : List Tb} {w : World} (hE : Errs G w) (h : TabsAt w.heap.size w pa ts) (hc : n ≤ pc) (hk : Keyed M n K ts) (hn : 6 < n) (hn9 : n < 9) (hM1 : 1 ≤ M) (hM : M ≤ 8) : Says6 pa n pc w ((6 : Nat) : Int) 3 := by
  obtain ⟨ty, p, hw⟩ := hE.many
  refine check_bad pa n pc G _ 3 ty p w hE.t (fun W hW => ?_)
  have := review_full pa pc ts W ((h.keep hW (by simp)).mono hW.size) (by rw [hk.len]; exact hc) 6 (by rw [hk.len]; exact hn) (fun i hi => hk.good hn9 hM1 hM (by omega) hi (.inl (by omega))) ty p (fun W' hW' => full_many 6 _ _ _ _ _ ty p W' (by omega) ((hW.trans hW').cell hw (by simp)))
  rw [hk.len] at this
  exact this
theorem chk_ok {M n pc : Nat} {K : Int} {pa : Option Addr} {ts : List Tb} {w : World} (h : TabsAt w.heap.size w pa ts) (hc : n ≤ pc) (hk : Keyed M n K ts) (hn : n ≤ 6) (hg : n = 0 ∨ (1 ≤ M ∧ M ≤ 8 ∧ 1 ≤ K ∧ K ≤ M)) : Says6 pa n pc w 0 0 := by
  have := check_ok pa pc ts w h (by rw [hk.len]; exact hc) (fun i hi => by
    rw [hk.len] at hi
    rcases hg with h0 | ⟨h1, h2, h3⟩
    · omega
    · exact hk.good (by omega) h1 h2 hi (by omega) (.inr h3))
  rw [hk.len] at this
  exact this
theorem chk_keys {G M n pc : Nat} {K : Int} {pa : Option Addr} {ts : List Tb} {w : World} (hE : Errs G w) (h : TabsAt w.heap.size w pa ts) (hc : n ≤ pc) (hk : Keyed M n K ts) (hn0 : 0 < n) (hn : n ≤ 6) (hM1 : 1 ≤ M) (hM : M ≤ 8) (hK : K < 1 ∨ (M : Int) < K) : Says6 pa n pc w ((n - 1 : Nat) : Int) 2 := by
  obtain ⟨ty, p, hw⟩ := hE.keys
  obtain ⟨e1, e2, _⟩ := hk.at_ (n - 1) (by omega)
  have e3 := hk.kn (n - 1) (by omega)
  refine check_bad pa n pc G _ 2 ty p w hE.t (fun W hW => ?_)
  have := review_form pa pc ts W ((h.keep hW (by simp)).mono hW.size) (by rw [hk.len]; exact hc) (n - 1) (by rw [hk.len]; omega) (fun i hi => hk.good (by omega) hM1 hM (by omega) (by omega) (.inl (by omega))) ty p (by omega) (by rw [e2, colsL_len]; exact hM1) (by rw [e2, colsL_len]; exact hM) (fun W' hW' => malformed_keys _ _ _ _ _ ty p W' (by rw [e1]; exact (names_ok _ (by omega)).1) (by rw [e2, e3, colsL_len]; exact hK) ((hW.trans hW').cell hw (by simp)))
  rw [hk.len] at this
  exact this
theorem Tabs6.keyed {M n pc : Nat} {pa : Option Addr} {ts : List Tb} {w1 w : World} (h : Tabs6 M n pc pa ts w1 w) : Keyed M n 1 ts :=
  ⟨h.len, fun j hj => ⟨(h.at_ j hj).1, (h.at_ j hj).2.1, (h.at_ j hj).2.2.2⟩, fun j hj => (h.at_ j (by omega)).2.2.1, fun j hj => (h.at_ j (by omega)).2.2.1⟩
theorem Tabs6.tabs {M n pc : Nat} {pa : Option Addr} {ts : List Tb} {w1 w : World} (h : Tabs6 M n pc pa ts w1 w) (hn : n < 9) (hM : M ≤ 10) : TabsAt w.heap.size w pa ts := by
  have hlM : ∀ t ∈ ts, t.l = colsL M := fun t ht => by
    obtain ⟨i, hi, rfl⟩ := List.getElem_of_mem ht
    have := (h.at_ i (by rw [← h.len]; exact hi)).2.1
    simpa [List.getD, hi] using this
  refine ⟨by rw [h.len]; omega, fun t ht => by rw [hlM t ht]; exact cols_at6 hM (h.cols t ht), ?_⟩
  rcases (own_cells3 h.own3).2 with h0 | ⟨g, e, _, hlt, _, hc⟩
  · exact .inl (List.eq_nil_of_length_eq_zero (by rw [h.len, h0]))
  · refine .inr ⟨g, 0, e, hlt, fun i hi => ?_⟩
    have f := flat3 tbC (fun _ => rfl) ts i hi
    have f0 := f 0 (by omega)
    have f1 := f 1 (by omega)
    have f2 := f 2 (by omega)
    simp only [Nat.zero_add]
    exact ⟨hc _ _ (by rw [Nat.add_zero] at f0; exact f0.trans rfl), hc _ _ (f1.trans rfl), hc _ _ (f2.trans rfl)⟩
end Go.Proofs.YtampkmmfkdekaaaDoor
