/- The law LogicTurns walked: true at any numbers. -/
import Derived.Test.YtmgddieadehmeaaJoins
import Derived.Test.YtmgddieadehmeaaStep
namespace Go.Proofs.Ytmgddieadehmeaa
open Go.RowKit

theorem not_not {x : Int} (h : isT x) : notT (notT x) = x := by
  rcases h with rfl | rfl | rfl <;> decide
theorem take_not {T : List Int} {k : Nat} {x : Int} (h : k < T.length) (hx : T.getD k 0 = x) : (T.take (k + 1)).map notT = (T.take k).map notT ++ [notT x] := take_map notT h hx
theorem join_congr {d r : Int} {l m : List Int} (h : ∀ x, x ∈ l ↔ x ∈ m) : joinT d r l = joinT d r m := by
  unfold joinT
  simp only [h]
theorem not_and {T : List Int} (h : ∀ x ∈ T, isT x) : notT (joinT 0 1 T) = joinT 1 0 (T.map notT) := by
  have h1 : (1 : Int) ∈ T.map notT ↔ (0 : Int) ∈ T := by
    rw [List.mem_map]
    constructor
    · rintro ⟨x, hx, e⟩
      rcases h x hx with rfl | rfl | rfl
      · exact hx
      · exact absurd e (by decide)
      · exact absurd e (by decide)
    · exact fun hx => ⟨0, hx, by decide⟩
  have h2 : (2 : Int) ∈ T.map notT ↔ (2 : Int) ∈ T := by
    rw [List.mem_map]
    constructor
    · rintro ⟨x, hx, e⟩
      rcases h x hx with rfl | rfl | rfl
      · exact absurd e (by decide)
      · exact absurd e (by decide)
      · exact hx
    · exact fun hx => ⟨2, hx, by decide⟩
  unfold joinT
  simp only [h1, h2]
  by_cases a : (0 : Int) ∈ T
  · simp [a, notT]
  · by_cases b : (2 : Int) ∈ T
    · simp [a, b, notT]
    · simp [a, b, notT]
theorem not_or {T : List Int} (h : ∀ x ∈ T, isT x) : notT (joinT 1 0 T) = joinT 0 1 (T.map notT) := by
  have h1 : (0 : Int) ∈ T.map notT ↔ (1 : Int) ∈ T := by
    rw [List.mem_map]
    constructor
    · rintro ⟨x, hx, e⟩
      rcases h x hx with rfl | rfl | rfl
      · exact absurd e (by decide)
      · exact hx
      · exact absurd e (by decide)
    · exact fun hx => ⟨1, hx, by decide⟩
  have h2 : (2 : Int) ∈ T.map notT ↔ (2 : Int) ∈ T := by
    rw [List.mem_map]
    constructor
    · rintro ⟨x, hx, e⟩
      rcases h x hx with rfl | rfl | rfl
      · exact absurd e (by decide)
      · exact absurd e (by decide)
      · exact hx
    · exact fun hx => ⟨2, hx, by decide⟩
  unfold joinT
  simp only [h1, h2]
  by_cases a : (1 : Int) ∈ T
  · simp [a, notT]
  · by_cases b : (2 : Int) ∈ T
    · simp [a, b, notT]
    · simp [a, b, notT]
theorem turn_mem {T : List Int} {k : Nat} (h : k < T.length) (x : Int) : x ∈ (T.drop k ++ T.take k) ++ [T.getD k 0] ↔ x ∈ T := by
  rw [List.mem_append, List.mem_append]
  constructor
  · rintro ((hx | hx) | hx)
    · exact List.mem_of_mem_drop hx
    · exact List.mem_of_mem_take hx
    · rw [List.mem_singleton.1 hx]; exact getD_mem h
  · intro hx
    left
    rw [← List.take_append_drop k T] at hx
    rcases List.mem_append.1 hx with h' | h'
    · exact .inr h'
    · exact .inl h'

theorem turn_at (n : Int) {k : Nat} (h1000 : k ≤ 1000) (h : 0 < k) : ∃ q : Nat, q < k ∧ wrap64 ((IntKind.u64.wrap n).tmod (k : Int)) = (q : Int) := by
  have h0 : 0 ≤ IntKind.u64.wrap n := by
    unfold IntKind.wrap
    simp [IntKind.signed, IntKind.bits]
    omega
  have e := Int.tmod_eq_emod_of_nonneg (b := (k : Int)) h0
  have hb := Int.emod_lt_of_pos (IntKind.u64.wrap n) (show (0 : Int) < (k : Int) by omega)
  have ha := Int.emod_nonneg (IntKind.u64.wrap n) (show (k : Int) ≠ 0 by omega)
  refine ⟨((IntKind.u64.wrap n) % (k : Int)).toNat, by omega, ?_⟩
  rw [e]
  generalize IntKind.u64.wrap n % (k : Int) = m at *
  unfold wrap64
  omega
theorem own_form {W wr : World} {l : List Int} {ao : Option Addr} {cap m : Nat} (h : OwnInts W l (.slice ao m cap) m wr) (hm : 0 < m) : ∃ g cp, Value.slice ao m cap = .slice (some ⟨g, 0, none⟩) m cp ∧ W.heap.size ≤ g ∧ g < wr.heap.size ∧ m ≤ cap := by
  rcases h.own.2 with ⟨_, h0⟩ | ⟨g, cp, cur, hv, hb, hg, hr⟩
  · omega
  · refine ⟨g, cp, hv, hb, ?_, ?_⟩
    · rcases Nat.lt_or_ge g wr.heap.size with hlt | hge
      · exact hlt
      · rw [Array.getElem?_eq_none hge] at hg; cases hg
    · cases hv
      exact hr.1

theorem add_at (g o j : Nat) : (⟨g, o, none⟩ : Addr).add j = ⟨g, o + j, none⟩ := by
  unfold Addr.add
  split
  · subst_vars; rfl
  · rfl
/-- The cells of a part of a row. -/
theorem part_cells {w : World} {T : List Int} {g q m : Nat} (h : IntsAt .i64 w (some ⟨g, 0, none⟩) T) : ∀ j u, (((T.drop q).take m).map (Value.int .i64))[j]? = some u → w.cell? ((⟨g, q, none⟩ : Addr).add j) = some u := by
  intro j u hu
  rw [List.getElem?_map, Option.map_eq_some_iff] at hu
  obtain ⟨x, hx, rfl⟩ := hu
  rw [List.getElem?_take] at hx
  split at hx
  · rw [List.getElem?_drop] at hx
    have hl : q + j < T.length := by
      rcases Nat.lt_or_ge (q + j) T.length with h' | h'
      · exact h'
      · rw [List.getElem?_eq_none h'] at hx; cases hx
    obtain ⟨b, off, e, _, hc⟩ := h.at hl
    cases e
    rw [add_at]
    have e : T.getD (q + j) 0 = x := by simp [List.getD, hx]
    rw [e] at hc
    simpa using hc
  · cases hx
theorem one_news {w : World} {b : Nat} {v : Value} (h : w.cell? ⟨b, 0, none⟩ = some v) : ∀ j u, [v][j]? = some u → w.cell? ((⟨b, 0, none⟩ : Addr).add j) = some u := by
  intro j u hj
  match j, hj with
  | 0, hj => simp at hj; subst hj; exact h
theorem one_cells (l : List Int) : ∀ u ∈ l.map (Value.int .i64), u.oneCell' = true := by
  intro u hu
  rw [List.mem_map] at hu
  obtain ⟨x, _, rfl⟩ := hu
  rfl

theorem own_ints {wr : World} {B : Nat} {v : Value} {m : Nat} {l : List Int} (h : wr.ownsRow B 26 1 v m (l.map (Value.int .i64))) (hm : l.length ≤ 9223372036854775807) : ∃ ao cap, v = .slice ao m cap ∧ l.length = m ∧ IntsAt .i64 wr ao l := by
  have hl : l.length = m := by have := h.1; simpa using this
  rcases h.2 with ⟨hv, h0⟩ | ⟨g, cap', cur, hv, _⟩
  · exact ⟨none, 0, by rw [hv, h0], hl, hm, .inl (List.eq_nil_of_length_eq_zero (by omega))⟩
  · refine ⟨some ⟨g, 0, none⟩, cap', hv, hl, hm, .inr ⟨g, 0, rfl, (h.lt g (by rw [hv]; rfl)).2, fun i hi => ?_⟩⟩
    have := h.cells (g := g) (by rw [hv]; rfl) i (.int .i64 (l.getD i 0)) (by simp [List.getD, hi])
    rw [add_at] at this
    exact this
theorem all_is {T : List Int} (h : ∀ k, k < T.length → isT (T.getD k 0)) : ∀ x ∈ T, isT x := by
  intro x hx
  obtain ⟨i, hi, rfl⟩ := List.mem_iff_getElem.1 hx
  have := h i hi
  simpa [List.getD, hi] using this
theorem turn_mem' {T l1 l2 : List Int} {q k : Nat} {z : Int} (hT : T.length = k) (h : q < k) (h1 : l1 = (T.drop q).take (k - q)) (h2 : l2 = (T.drop 0).take q) (hz : T.getD q 0 = z) (x : Int) : x ∈ (l1 ++ l2) ++ [z] ↔ x ∈ T := by
  rw [h1, h2, ← hz, List.take_of_length_le (by rw [List.length_drop]; omega)]
  exact turn_mem (by omega) x

/-- What the calls behind the turning answer. -/
theorem turn_tail {W : World} {T N U : List Int} {bt bn bu : Option Addr} {ct cn cu t n u : Nat} (hT : ∀ x ∈ T, isT x) (ht : IntsAt .i64 W bt T) (hn : IntsAt .i64 W bn N) (hu : IntsAt .i64 W bu U) (lt : T.length = t) (ln : N.length = n) (lu : U.length = u) (eN : N = T.map notT) (eU : ∀ x, x ∈ U ↔ x ∈ T) :
    ∃ x y p q : Int,
      Hid (Calls Try.prog 13 #[.slice bt t ct] W fun e w' => e = .returned (.int .i64 x) ∧ W = w') ∧
      Hid (Calls Try.prog 11 #[.int .i64 x] W fun e w' => e = .returned (.int .i64 p) ∧ W = w') ∧
      Hid (Calls Try.prog 15 #[.slice bn n cn] W fun e w' => e = .returned (.int .i64 p) ∧ W = w') ∧
      Hid (Calls Try.prog 15 #[.slice bt t ct] W fun e w' => e = .returned (.int .i64 y) ∧ W = w') ∧
      Hid (Calls Try.prog 11 #[.int .i64 y] W fun e w' => e = .returned (.int .i64 q) ∧ W = w') ∧
      Hid (Calls Try.prog 13 #[.slice bn n cn] W fun e w' => e = .returned (.int .i64 q) ∧ W = w') ∧
      Hid (Calls Try.prog 13 #[.slice bu u cu] W fun e w' => e = .returned (.int .i64 x) ∧ W = w') ∧
      Hid (Calls Try.prog 15 #[.slice bu u cu] W fun e w' => e = .returned (.int .i64 y) ∧ W = w') := by
  subst lt ln lu
  refine ⟨joinT 0 1 T, joinT 1 0 T, notT (joinT 0 1 T), notT (joinT 1 0 T), Lib.hid (and_any _ _ _ _ ht), Lib.hid (not_any _ _), Lib.hid ?_, Lib.hid (or_any' _ _ _ _ ht), Lib.hid (not_any _ _), Lib.hid ?_, Lib.hid ?_, Lib.hid ?_⟩
  · rw [not_and hT, ← eN]
    exact or_any' _ _ _ _ hn
  · rw [not_or hT, ← eN]
    exact and_any _ _ _ _ hn
  · rw [← join_congr eU]
    exact and_any _ _ _ _ hu
  · rw [← join_congr eU]
    exact or_any' _ _ _ _ hu

set_option maxHeartbeats 6400000 in
theorem LogicTurns_any (a : Option Addr) (cap : Nat) (l : List Int) (n : Int) (w : World) (h : IntsAt .u8 w a l) (h8 : ∀ x ∈ l, 0 ≤ x ∧ x ≤ 255) :
    Calls Try.prog 4 #[.slice a l.length cap, .int .i64 n] w fun e w' => e = .returned (.bool true) ∧ Below w.heap.size w w' := by
  have hm := h.1
  have HT := Lib.hid (fun w' (hb : Below w.heap.size w w') hl => truths_any a cap l w' (h.keep hb) h8 hl)
  have Hlen : Hid ((l.map m3).length = l.length) := Lib.hid (by simp)
  have HM := Lib.hid (fun k (hk : k < (l.map m3).length) => map_is hk)
  clear h h8
  generalize l.map m3 = T at *
  generalize l.length = len at *
  obtain ⟨i0, hi, hz0, hz1, hz2⟩ := info_parts truth_info
  go_enter Try.func4, Try.ntmps4
  have hbl : Below w.heap.size w w := Below.refl _ _
  go_wp2_with fail
  refine (awake_any _).mono ?_
  rintro e w1 ⟨rfl, hb1⟩
  replace hbl := hbl.trans (hb1.mono hbl.size)
  clear hb1
  by_cases hl : 1000 < len
  · go_wp2_with fail
    refine (awake_any _).mono ?_
    rintro e w2 ⟨rfl, hb2⟩
    replace hbl := hbl.trans (hb2.mono hbl.size)
    clear hb2
    go_wp2_with fail
    go_ret
    exact ⟨rfl, hbl⟩
  have hl' : len ≤ 1000 := by omega
  clear hl
  go_wp2_with fail
  refine (HT.out _ hbl hl').mono ?_
  rintro e w2 ⟨v, rfl, ho⟩
  obtain ⟨ao, cp, rfl⟩ := ho.slice
  have HI := Lib.hid (ho.ints (by rw [Hlen.out]; omega))
  have HB := Lib.hid (hbl.trans (ho.below.mono hbl.size))
  have Ho2 := Lib.hid ho
  clear ho hbl HT
  go_wp2_with fail
  go_loopw [6, 23] (fun v i wr => ∃ (k : Nat) (full : List Int), k ≤ len ∧ i = .int .i64 k ∧ Hid (full = (T.take k).map notT) ∧ OwnInts w2 full v k wr) (fun _ i _ => len - (intOf i).toNat)
  case atStart => exact ⟨0, [], Nat.zero_le _, rfl, Lib.hid (by simp), OwnInts.begin _ _ (Below.refl _ _)⟩
  case round =>
    obtain ⟨k, full, hk, rfl, hf, ho⟩ := hrel
    obtain ⟨av, cv, rfl⟩ := ho.slice
    have hbl := ho.below
    have hbs := hbl.size
    have Ho := Lib.hid ho
    clear ho
    by_cases hlt : k < len
    · obtain ⟨b, off, rfl, hbs', c0⟩ := (HI.out.keep hbl).at (i := k) (by rw [Hlen.out]; exact hlt)
      have hz := HM.out k (by rw [Hlen.out]; exact hlt)
      have Hn : Hid ((T.take (k + 1)).map notT = full ++ [notT (T.getD k 0)]) := Lib.hid (by rw [hf.out]; exact take_not (by rw [Hlen.out]; exact hlt) rfl)
      generalize T.getD k 0 = z at *
      have HN := Lib.hid (not_any z)
      have HN' := Lib.hid (fun w => not_not hz ▸ not_any (notT z) w)
      clear hz
      generalize notT z = u at *
      go_wp2_with fail
      refine (HN.out _).mono ?_
      rintro e w3 ⟨rfl, rfl⟩
      go_wp2_with (at_builtin; refine wpList_append_own _ rfl _ _ 24 rfl w2.heap.size 26 i0 (.int .i64 0) 1 8 Try.underlying24 hi hz0 hz1 hz2 rfl (by decide) _ _ _ rfl (Ho.out.own.alloc _) ⟨wr.heap.size, 0, none⟩ 1 1 [.int .i64 u] rfl rfl ?c1 ?c2 ?c3 ?c4 ?c5 ?_)
      case c1 =>
        intro j u hj
        match j, hj with
        | 0, hj => simp at hj; subst hj; simp [Addr.add]
      case c2 => first | (intro u hu; simp at hu; subst hu; rfl) | rfl
      case c3 => unfold maxLen; omega
      case c4 => omega
      case c5 => first | omega | (simp; omega)
      intro v' w3 hown' hgrow _
      have ho2 := Lib.hid (Ho.out.step (x := [u]) _ rfl rfl hown' hgrow)
      go_wp2_with fail
      refine (HN.out _).mono ?_
      rintro e w4 ⟨rfl, rfl⟩
      go_wp2_with fail
      refine (HN'.out _).mono ?_
      rintro e w4 ⟨rfl, rfl⟩
      go_wp2_with fail
      go_roundw
      case rel => exact ⟨k + 1, full ++ [u], by omega, by go_num, Lib.hid Hn.out.symm, ho2.out⟩
      case measure => simp [intOf]; omega
    · obtain rfl : k = len := by omega
      by_cases hk0 : 0 < k
      · obtain ⟨q, hq, e⟩ := turn_at n (by omega) hk0
        go_upto_region 14 with (fail)
        rw [e]
        clear e
        obtain ⟨g, cp', hao, hg, hgl, hcp⟩ := own_form Ho2.out hk0
        cases hao
        have q0 : (0 : Int) ≤ (q : Int) := Int.natCast_nonneg _
        have q1 : (q : Int) < (k : Int) := by omega
        have q2 : (q : Int) ≤ (k : Int) := by omega
        have hcp' : (k : Int) ≤ (cp : Int) := by omega
        have q3 : (q : Int) ≤ (cp : Int) := by omega
        have q4 : (q : Int) < (cp : Int) := by omega
        obtain ⟨b, off, e0, hbs', c0⟩ := (HI.out.keep hbl).at (i := q) (by rw [Hlen.out]; exact hq)
        cases e0
        generalize hz : T.getD q 0 = z at *
        have Hz := Lib.hid hz
        clear hz
        have c1 : wr.cell? ⟨g, q, none⟩ = some (.int .i64 z) := by simpa using c0
        clear c0
        have q5 : ¬ cp = q := by omega
        have hgl' : g < wr.heap.size := Nat.lt_of_lt_of_le hgl hbs
        obtain ⟨l1, hl1⟩ : ∃ l1, l1 = (T.drop q).take (k - q) := ⟨_, rfl⟩
        obtain ⟨l2, hl2⟩ : ∃ l2, l2 = (T.drop 0).take q := ⟨_, rfl⟩
        have n1 : l1.length = k - q := by rw [hl1, List.length_take, List.length_drop, Hlen.out]; omega
        have n2 : l2.length = q := by rw [hl2, List.length_take, List.length_drop, Hlen.out]; omega
        have HC1 := Lib.hid (fun w' (hb : Below wr.heap.size wr w') => hl1 ▸ part_cells (q := q) (m := k - q) ((HI.out.keep hbl).keep hb))
        have HC2 := Lib.hid (fun w' (hb : Below wr.heap.size wr w') => hl2 ▸ part_cells (q := 0) (m := q) ((HI.out.keep hbl).keep hb))
        have L1 := Lib.hid hl1
        have L2 := Lib.hid hl2
        clear hl1 hl2
        go_region_held3 (fun w' => w'.cell? ⟨g, q, none⟩ = some (.int .i64 z)) (first | go_keep | exact c5 | exact c4 | exact c3) (first | (refine step_append_own wr.drew (by rfl) (.tmp 48) (.tmp 51) _ (by rfl) wr.heap.size 26 i0 (.int .i64 0) 1 8 Try.underlying24 hi hz0 hz1 hz2 rfl (by decide) (.slice none 0 0) 0 [] (by rfl) (World.ownsRow_nil _ _ _ _) ⟨g, q, none⟩ (k - q) (cp - q) (l1.map (Value.int .i64)) (by simp [Act.eval]) (by simp only [List.length_map]; omega) (HC1.out _ (Below.refl _ _).drew) (one_cells _) (by unfold maxLen; omega) (by omega) (by first | exact Nat.le_refl _ | omega | (simp; done) | (simp; omega)) ?_; intro v1 w3 hown1 hgrow1; have B3 := Lib.hid ((Below.refl wr.heap.size wr).drew.grown hgrow1 (Nat.le_refl _) (fun k hk => by cases hk)); have c3 := (B3.out.cell (p := ⟨g, q, none⟩) hgl').trans c1; have hs3 := B3.out.size; have F3 := Lib.hid (fun k hk => (hown1.lt k hk).1)) | (refine step_append_own (wr.drew.alloc (.cells #[.int .i64 z] 26)) (by rfl) (.tmp 48) (.tmp 51) _ (by rfl) (wr.heap.size + 1) 26 i0 (.int .i64 0) 1 8 Try.underlying24 hi hz0 hz1 hz2 rfl (by decide) (.slice none 0 0) 0 [] (by rfl) (World.ownsRow_nil _ _ _ _) ⟨g, q, none⟩ (k - q) (cp - q) (l1.map (Value.int .i64)) (by simp [Act.eval]) (by simp only [List.length_map]; omega) (HC1.out _ ((Below.refl _ _).drew.alloc (Nat.le_refl _) _)) (one_cells _) (by unfold maxLen; omega) (by omega) (by first | exact Nat.le_refl _ | omega | (simp; done) | (simp; omega)) ?_; intro v1 w3 hown1 hgrow1; have B3 := Lib.hid (((Below.refl wr.heap.size wr).drew.alloc (Nat.le_refl _) (.cells #[.int .i64 z] 26)).grown hgrow1 (by simp) (fun k hk => by cases hk)); have c3 := (B3.out.cell (p := ⟨g, q, none⟩) hgl').trans c1; have hs3 := B3.out.size; have F3 := Lib.hid (show ∀ k, v1.ownBlock = some k → wr.heap.size ≤ k from fun k hk => by have := (hown1.lt k hk).1; omega); have Z3 := Lib.hid ((hgrow1.cell_far ⟨wr.heap.size, 0, none⟩ (by simp) (by simp [Value.ownBlock])).trans (Lib.cell_of_heap (heap_new wr.drew (.cells #[.int .i64 z] 26)) 0)); have Y3 := Lib.hid (show some wr.heap.size ≠ v1.ownBlock from fun e => by have := (hown1.lt _ e.symm).1; omega); have X3 : wr.heap.size + 1 ≤ w3.heap.size := by have := hgrow1.size; simpa using this) | (refine step_append_own w3 (by rfl) (.tmp 52) (.tmp 55) _ (by rfl) _ 26 i0 (.int .i64 0) 1 8 Try.underlying24 hi hz0 hz1 hz2 rfl (by decide) v1 _ _ (by rfl) hown1 ⟨g, 0, none⟩ q cp (l2.map (Value.int .i64)) (by rfl) (by simp only [List.length_map]; omega) (HC2.out _ B3.out) (one_cells _) (by unfold maxLen; omega) (by omega) (by first | exact Nat.le_refl _ | omega | (simp; done) | (simp; omega)) ?_; intro v2 w4 hown2 hgrow2; have B4 := Lib.hid (B3.out.grown hgrow2 hs3 F3.out); have c4 := (B4.out.cell (p := ⟨g, q, none⟩) hgl').trans c1; have hs4 := B4.out.size; have F4 := Lib.hid (fun k hk => (hown2.lt k hk).1); have X4 := hgrow2.size) | (refine step_append_own (w3.alloc (.cells #[.int .i64 z] 26)) (by rfl) (.tmp 52) (.tmp 55) _ (by rfl) _ 26 i0 (.int .i64 0) 1 8 Try.underlying24 hi hz0 hz1 hz2 rfl (by decide) v1 _ _ (by rfl) (hown1.alloc _) ⟨g, 0, none⟩ q cp (l2.map (Value.int .i64)) (by rfl) (by simp only [List.length_map]; omega) (HC2.out _ (B3.out.alloc hs3 _)) (one_cells _) (by unfold maxLen; omega) (by omega) (by first | exact Nat.le_refl _ | omega | (simp; done) | (simp; omega)) ?_; intro v2 w4 hown2 hgrow2; have B4 := Lib.hid ((B3.out.alloc hs3 (.cells #[.int .i64 z] 26)).grown hgrow2 (by simp; omega) F3.out); have c4 := (B4.out.cell (p := ⟨g, q, none⟩) hgl').trans c1; have hs4 := B4.out.size; have F4 := Lib.hid (fun k hk => (hown2.lt k hk).1); have Z4 := Lib.hid ((hgrow2.cell_far ⟨w3.heap.size, 0, none⟩ (by simp) (fun e => by have := (hown1.lt _ e.symm).2; simp at this)).trans (Lib.cell_of_heap (heap_new w3 (.cells #[.int .i64 z] 26)) 0))) | (refine step_append_own w4 (by rfl) (.tmp 56) (.tmp 61) _ (by rfl) _ 26 i0 (.int .i64 0) 1 8 Try.underlying24 hi hz0 hz1 hz2 rfl (by decide) v2 _ _ (by rfl) hown2 ⟨w3.heap.size, 0, none⟩ 1 1 [.int .i64 z] (by rfl) rfl (one_news Z4.out) (by intro u hu; simp at hu; subst hu; rfl) (by unfold maxLen; omega) (by omega) (by first | exact Nat.le_refl _ | omega | (simp; done) | (simp; omega)) ?_; intro v3 w5 hown3 hgrow3; have B5 := Lib.hid (B4.out.grown hgrow3 (by first | exact hs4 | (simp; omega)) (fun k hk => by have := F4.out k hk; omega)); have c5 := (B5.out.cell (p := ⟨g, q, none⟩) hgl').trans c1) | (refine step_append_own (w4.alloc (.cells #[.int .i64 z] 26)) (by rfl) (.tmp 56) (.tmp 61) _ (by rfl) _ 26 i0 (.int .i64 0) 1 8 Try.underlying24 hi hz0 hz1 hz2 rfl (by decide) v2 _ _ (by rfl) (hown2.alloc _) ⟨w4.heap.size, 0, none⟩ 1 1 [.int .i64 z] (by rfl) rfl (one_news (Lib.cell_of_heap (heap_new w4 (.cells #[.int .i64 z] 26)) 0)) (by intro u hu; simp at hu; subst hu; rfl) (by unfold maxLen; omega) (by omega) (by first | exact Nat.le_refl _ | omega | (simp; done) | (simp; omega)) ?_; intro v3 w5 hown3 hgrow3; have B5 := Lib.hid ((B4.out.alloc hs4 (.cells #[.int .i64 z] 26)).grown hgrow3 (by first | exact hs4 | (simp; omega)) (fun k hk => by have := F4.out k hk; omega)); have c5 := (B5.out.cell (p := ⟨g, q, none⟩) hgl').trans c1) | (refine step_append_own w4 (by rfl) (.tmp 56) (.tmp 61) _ (by rfl) _ 26 i0 (.int .i64 0) 1 8 Try.underlying24 hi hz0 hz1 hz2 rfl (by decide) v2 _ _ (by rfl) hown2 ⟨wr.heap.size, 0, none⟩ 1 1 [.int .i64 z] (by rfl) rfl (one_news ((hgrow2.cell_far ⟨wr.heap.size, 0, none⟩ (Nat.lt_of_succ_le X3) Y3.out).trans Z3.out)) (by intro u hu; simp at hu; subst hu; rfl) (by unfold maxLen; omega) (by omega) (by first | exact Nat.le_refl _ | omega | (simp; done) | (simp; omega)) ?_; intro v3 w5 hown3 hgrow3; have B5 := Lib.hid (B4.out.grown hgrow3 (by first | exact hs4 | (simp; omega)) (fun k hk => by have := F4.out k hk; omega)); have c5 := (B5.out.cell (p := ⟨g, q, none⟩) hgl').trans c1))
        all_goals
          have lF : full.length = k := Ho.out.len.symm
          obtain ⟨au, cu, rfl, lU, hU⟩ := own_ints (l := (l1 ++ l2) ++ [z]) (by simpa using hown3) (by simp only [List.length_append, List.length_singleton]; omega)
          obtain ⟨x, y, p, r, KA, KNA, KON, KO, KNO, KAN, KAU, KOU⟩ := turn_tail (W := w5) (ct := cp) (cn := cv) (cu := cu) (all_is HM.out) ((HI.out.keep hbl).keep B5.out) ((Ho.out.more B5.out).ints (by omega)) hU Hlen.out lF lU (by rw [hf.out, List.take_of_length_le (by rw [Hlen.out]; exact Nat.le_refl _)]) (turn_mem' Hlen.out hq L1.out L2.out Hz.out)
          have HE := Lib.hid ((HB.out.trans (hbl.mono HB.out.size)).trans (B5.out.mono (Nat.le_trans HB.out.size hbs)))
          clear hown1 hown2 hown3 hgrow1 hgrow2 hgrow3 hU lF lU
          go_wp2_with fail
          (refine KA.out.mono ?_; rintro e w6 ⟨rfl, rfl⟩)
          go_wp2_with fail
          (refine KNA.out.mono ?_; rintro e w6 ⟨rfl, rfl⟩)
          go_wp2_with fail
          (refine KON.out.mono ?_; rintro e w6 ⟨rfl, rfl⟩)
          go_wp2_with fail
          (refine KO.out.mono ?_; rintro e w6 ⟨rfl, rfl⟩)
          go_wp2_with fail
          (refine KNO.out.mono ?_; rintro e w6 ⟨rfl, rfl⟩)
          go_wp2_with fail
          (refine KAN.out.mono ?_; rintro e w6 ⟨rfl, rfl⟩)
          go_wp2_with fail
          (refine KAU.out.mono ?_; rintro e w6 ⟨rfl, rfl⟩)
          go_wp2_with fail
          (refine KA.out.mono ?_; rintro e w6 ⟨rfl, rfl⟩)
          go_wp2_with fail
          (refine KOU.out.mono ?_; rintro e w6 ⟨rfl, rfl⟩)
          go_wp2_with fail
          (refine KO.out.mono ?_; rintro e w6 ⟨rfl, rfl⟩)
          go_wp2_with fail
          go_ret
          exact ⟨ret_bool (by simp), HE.out⟩
      · obtain rfl : k = 0 := by omega
        have lF : full.length = 0 := Ho.out.len.symm
        obtain ⟨x, y, p, r, KA, KNA, KON, KO, KNO, KAN, KAU, KOU⟩ := turn_tail (W := wr) (ct := cp) (cn := cv) (cu := 0) (bu := none) (U := []) (all_is HM.out) (HI.out.keep hbl) (Ho.out.ints (by omega)) ⟨by simp, .inl rfl⟩ Hlen.out lF rfl (by rw [hf.out, List.take_of_length_le (by rw [Hlen.out]; exact Nat.le_refl _)]) (by rw [List.eq_nil_of_length_eq_zero Hlen.out]; intro x; rfl)
        have HE := Lib.hid (HB.out.trans (hbl.mono HB.out.size))
        clear lF
        go_wp2_with fail
        (refine KA.out.mono ?_; rintro e w6 ⟨rfl, rfl⟩)
        go_wp2_with fail
        (refine KNA.out.mono ?_; rintro e w6 ⟨rfl, rfl⟩)
        go_wp2_with fail
        (refine KON.out.mono ?_; rintro e w6 ⟨rfl, rfl⟩)
        go_wp2_with fail
        (refine KO.out.mono ?_; rintro e w6 ⟨rfl, rfl⟩)
        go_wp2_with fail
        (refine KNO.out.mono ?_; rintro e w6 ⟨rfl, rfl⟩)
        go_wp2_with fail
        (refine KAN.out.mono ?_; rintro e w6 ⟨rfl, rfl⟩)
        go_wp2_with fail
        (refine KAU.out.mono ?_; rintro e w6 ⟨rfl, rfl⟩)
        go_wp2_with fail
        (refine KA.out.mono ?_; rintro e w6 ⟨rfl, rfl⟩)
        go_wp2_with fail
        (refine KOU.out.mono ?_; rintro e w6 ⟨rfl, rfl⟩)
        go_wp2_with fail
        (refine KO.out.mono ?_; rintro e w6 ⟨rfl, rfl⟩)
        go_wp2_with fail
        go_ret
        exact ⟨ret_bool (by simp), HE.out⟩
end Go.Proofs.Ytmgddieadehmeaa
