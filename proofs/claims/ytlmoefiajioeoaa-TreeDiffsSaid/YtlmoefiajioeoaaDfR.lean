/- The document's Diff of pairs. -/
import Derived.Test.YtlmoefiajioeoaaDf
import Derived.Test.YtlmoefiajioeoaaTkG
namespace Go.Proofs.Ytlmoefiajioeoaa
open Go.RowKit

theorem insP_all {x y : Pw} : ∀ {l : List Pw}, y = x ∨ y ∈ l → y ∈ insP x l
  | [], h => by simpa [insP] using h
  | z :: l, h => by
    simp only [insP]
    split
    · simpa using h
    · rcases h with rfl | h
      · exact List.mem_cons_of_mem _ (insP_all (.inl rfl))
      · rcases List.mem_cons.1 h with rfl | h
        · exact List.mem_cons_self
        · exact List.mem_cons_of_mem _ (insP_all (.inr h))
/-- The keys that have been seen, in order. -/
structure KeysOf (K : List Pw) (seen : List (List Vl)) : Prop where
  sort : Tr.Sorted rowsOrd (K.map Pw.p)
  mem : ∀ k, (∃ x ∈ K, x.k.l = k) ↔ k ∈ seen
  good : ∀ x ∈ K, x.k.l.all Vl.good = true
  few : K.length ≤ seen.length
theorem KeysOf.put {K : List Pw} {seen : List (List Vl)} (h : KeysOf K seen) (k R : Rw) (hg : k.l.all Vl.good = true) : KeysOf (insP ⟨k, R⟩ (delP k.l K)) (seen ++ [k.l]) := by
  refine ⟨?_, fun k' => ⟨fun ⟨x, hx, e⟩ => ?_, fun hk => ?_⟩, fun x hx => ?_, ?_⟩
  · rw [insP_p, delP_p]
    exact Tr.putL_sorted ro_ord h.sort
  · rw [List.mem_append]
    rcases insP_mem hx with rfl | hx
    · exact .inr (by simp [← e])
    · exact .inl ((h.mem k').1 ⟨x, delP_mem hx, e⟩)
  · by_cases hkk : k' = k.l
    · exact ⟨⟨k, R⟩, insP_all (.inl rfl), hkk.symm⟩
    · rw [List.mem_append, List.mem_singleton] at hk
      rcases hk with hk | hk
      · obtain ⟨x, hx, e⟩ := (h.mem k').2 hk
        refine ⟨x, insP_all (.inr (List.mem_filter.2 ⟨hx, ?_⟩)), e⟩
        have : rowsOrd x.k.l k.l ≠ 0 := fun h0 => hkk (by rw [← e]; exact (ro_zero _ _).1 h0)
        simp [this]
      · exact absurd hk hkk
  · rcases insP_mem hx with rfl | hx
    · exact hg
    · exact h.good x (delP_mem hx)
  · rw [insP_len, List.length_append]
    have := delP_len k.l K
    have := h.few
    simp
    omega
theorem KeysOf.nil : KeysOf [] [] := ⟨by simp [Tr.Sorted], fun k => by simp, by simp, Nat.le_refl _⟩
theorem KeysOf.final {K l m : List Pw} (h : KeysOf K (l.map (fun x => x.k.l) ++ m.map (fun x => x.k.l))) (hl : Tr.Sorted rowsOrd (l.map Pw.p)) (hm : Tr.Sorted rowsOrd (m.map Pw.p)) : K.map (fun x => x.k.l) = mergeK (l.map Pw.p) (m.map Pw.p) := by
  refine rise_same _ _ ?_ (mergeK_rise _ _ hl hm) (fun k => ?_)
  · have := h.sort
    unfold Tr.Sorted at this
    rw [List.pairwise_map] at this
    unfold RiseK
    rw [List.pairwise_map]
    exact this
  · have h1 := h.mem k
    have e1 : k ∈ K.map (fun x => x.k.l) ↔ ∃ x ∈ K, x.k.l = k := List.mem_map
    rw [e1, h1, List.mem_append, List.mem_map, List.mem_map]
    constructor
    · rintro (⟨x, hx, e⟩ | ⟨x, hx, e⟩)
      · exact mem_mergeK _ _ k (.inl ⟨x.p, List.mem_map_of_mem hx, e⟩)
      · exact mem_mergeK _ _ k (.inr ⟨x.p, List.mem_map_of_mem hx, e⟩)
    · intro hk
      rcases mergeK_mem _ _ k hk with ⟨x, hx, e⟩ | ⟨x, hx, e⟩
      · obtain ⟨y, hy, rfl⟩ := List.mem_map.1 hx
        exact .inl ⟨y, hy, e⟩
      · obtain ⟨y, hy, rfl⟩ := List.mem_map.1 hx
        exact .inr ⟨y, hy, e⟩
theorem ask_so {a b : PL} {k x : List Vl} (h1 : lookL k a = some x) (h2 : lookL k b = none) : askL a b k = [(x, [])] := by unfold askL; rw [h1, h2]
theorem ask_no {a b : PL} {k y : List Vl} (h1 : lookL k a = none) (h2 : lookL k b = some y) : askL a b k = [([], y)] := by unfold askL; rw [h1, h2]
theorem ask_nn {a b : PL} {k : List Vl} (h1 : lookL k a = none) (h2 : lookL k b = none) : askL a b k = [] := by unfold askL; rw [h1, h2]
theorem ask_ss {a b : PL} {k x y : List Vl} (h1 : lookL k a = some x) (h2 : lookL k b = some y) : askL a b k = if rowsOrd x y = 0 then [] else [(x, y)] := by unfold askL; rw [h1, h2]
theorem take_flat {f : List Vl → PL} {L : List (List Vl)} {j : Nat} (h : j < L.length) : (L.take (j + 1)).flatMap f = (L.take j).flatMap f ++ f (L.getD j []) := by
  rw [List.take_succ_eq_append_getElem h, List.flatMap_append]
  simp [List.getD, h]
theorem rwsNil (S : Nat → Prop) (w : World) : RwS S w none [] := ⟨by simp, by simp, .inl rfl⟩
def TellsR (T : PL) (w : World) (e : Ending) (w' : World) : Prop := (∃ a cap O, e = .returned (.slice a (List.length O) cap) ∧ O.length ≤ cap ∧ CsAt w' a O ∧ O.map Cw.p = T) ∧ w.grownBy w' none
/-- What is told so far of the keys: its rows lie in the lists. -/
structure OutR (w W : World) (s : Value) (O : List Cw) (B : Nat) : Prop where
  own : W.ownsRow B 93 3 s O.length (O.flatMap Cw.c)
  rows : ∀ x ∈ O, RwS Any w x.o.a x.o.l ∧ RwS Any w x.n.a x.n.l
set_option maxRecDepth 100000 in
set_option maxHeartbeats 25600000 in
theorem refDiff_any (a a2 : Ptr) (cap cap2 : Nat) (l m : List Pw) (w : World) (h : PsS Any w a l) (h2 : PsS Any w a2 m) (hcap : l.length ≤ cap) (hcap2 : m.length ≤ cap2) (hl : Tr.Sorted rowsOrd (l.map Pw.p)) (hm : Tr.Sorted rowsOrd (m.map Pw.p)) (hgl : ∀ x ∈ l, x.k.l.all Vl.good = true) (hgm : ∀ x ∈ m, x.k.l.all Vl.good = true) (hb : l.length + m.length ≤ 80000) :
    Calls Try.prog 19 #[.slice a l.length cap, .slice a2 m.length cap2] w (TellsR (diffL (l.map Pw.p) (m.map Pw.p)) w) := by
  have H := Lib.hid (And.intro h h2)
  have HS := Lib.hid (And.intro hl (And.intro hm (And.intro hgl hgm)))
  have HG := Lib.hid (fun W (hW : w.grownBy W none) (ka : Ptr) (kc : Nat) (key : List Vl) (hk : RowAt W ka key) => refGet_any Any a ka cap kc l key W (h.keep (.of hW)) hcap hk)
  have HG2 := Lib.hid (fun W (hW : w.grownBy W none) (ka : Ptr) (kc : Nat) (key : List Vl) (hk : RowAt W ka key) => refGet_any Any a2 ka cap2 kc m key W (h2.keep (.of hW)) hcap2 hk)
  obtain ⟨n, hn⟩ : ∃ n, n = l.length := ⟨_, rfl⟩
  have Hn := Lib.hid hn
  obtain ⟨n2, hn2⟩ : ∃ n2, n2 = m.length := ⟨_, rfl⟩
  have Hn2 := Lib.hid hn2
  rw [← hn] at hcap HG hb ⊢
  rw [← hn2] at hcap2 HG2 hb ⊢
  clear h h2 hn hn2 hl hm hgl hgm
  go_enter Try.func19, Try.ntmps19
  go_wp2_with fail
  go_loopw [5, 16] (fun s5 s16 wr => ∃ (ka : Ptr) (kq kc j : Nat), s5 = .slice ka kq kc ∧ s16 = .int .i64 j ∧ j ≤ n ∧ kq ≤ 80000 ∧ Hid (∃ K : List Pw, K.length = kq ∧ kq ≤ kc ∧ PsS Any wr ka K ∧ KeysOf K ((l.take j).map (fun x => x.k.l)) ∧ w.grownBy wr none)) (fun _ s16 _ => n - (intOf s16).toNat)
  case atStart => exact ⟨none, 0, 0, 0, rfl, rfl, by omega, by omega, Lib.hid ⟨[], rfl, Nat.le_refl _, ⟨by simp, by simp, .inl rfl⟩, by simpa using KeysOf.nil, grown_reflT _ _⟩⟩
  case round =>
    obtain ⟨ka, kq, kc, j, rfl, rfl, hj, hkq, I⟩ := hrel
    by_cases hlt : j < n
    · obtain ⟨K, hK, hkc, hp, hko, hg⟩ := I.out
      have hjl : j < l.length := by rw [← Hn.out]; exact hlt
      obtain ⟨b, off, ha, hb1, c0, c1⟩ := (H.out.1.keep (.of hg)).at (i := j) hjl
      have hkrow := ((H.out.1.keep (.of hg)).mem (i := j) hjl).1
      have hgk := HS.out.2.2.1 (l.getD j default) (by simp [List.getD, hjl])
      have hpu := refPut_any Any ka (l.getD j default).k.a none kc (l.getD j default).k.cap 0 K (l.getD j default).k.l [] wr (fun _ _ => trivial) hp (by omega) hkrow (rwsNil _ _) hgk hko.good (by omega)
      have hko' := hko.put (l.getD j default).k ⟨none, 0, []⟩ hgk
      have hlen : (insP ⟨(l.getD j default).k, ⟨none, 0, []⟩⟩ (delP (l.getD j default).k.l K)).length ≤ 80000 := by
        have := hko'.few
        simp only [List.length_append, List.length_map, List.length_take, List.length_singleton] at this
        have := Hn.out
        have := Hn2.out
        omega
      have hseen : (l.take (j + 1)).map (fun x => x.k.l) = ((l.take j).map (fun x => x.k.l)) ++ [(l.getD j default).k.l] := by
        rw [take_at hjl]; simp
      rw [← hseen] at hko'
      have hku : (⟨(l.getD j default).k.a, (l.getD j default).k.cap, (l.getD j default).k.l⟩ : Rw) = (l.getD j default).k := rfl
      rw [hku, hK] at hpu
      generalize insP ⟨(l.getD j default).k, ⟨none, 0, []⟩⟩ (delP (l.getD j default).k.l K) = K' at *
      generalize l.getD j default = x at *
      obtain ⟨⟨xka, xkc, xkl⟩, ⟨xra, xrc, xrl⟩⟩ := x
      simp only [Rw.v] at c0 hpu
      obtain ⟨y, hy⟩ : ∃ y, y = xkl.length := ⟨_, rfl⟩
      obtain ⟨q', hq'⟩ : ∃ q', q' = K'.length := ⟨_, rfl⟩
      rw [← hy] at c0 hpu
      rw [← hq'] at hpu hlen
      simp only [List.length_nil] at hpu
      have HPu := Lib.hid hpu
      have D := Lib.hid (And.intro hko' (And.intro hg hq'))
      have HA := Lib.hid ha
      have i1 : (j : Int) ≤ cap := by omega
      clear hK hkc hp hko hg hkrow hgk hpu hko' hseen hku hy hq' hjl c1 I
      subst ha
      go_wp2_with fail
      refine HPu.out.mono ?_
      rintro e w2 ⟨⟨a', cap', rfl, hc', hp'⟩, hg2⟩
      have E := Lib.hid (And.intro hc' (And.intro hp' hg2))
      clear hc' hp' hg2 HPu
      go_wp2_with fail
      go_roundw
      case rel => exact ⟨a', q', cap', j + 1, rfl, by go_num, by omega, hlen, Lib.hid ⟨K', D.out.2.2.symm, E.out.1, E.out.2.1, D.out.1, D.out.2.1.trans E.out.2.2⟩⟩
      case measure => simp [intOf]; omega
    · obtain rfl : j = n := by omega
      go_wp2_with fail
      go_loopw [5, 29] (fun s5 s16 wr => ∃ (ka : Ptr) (kq kc j : Nat), s5 = .slice ka kq kc ∧ s16 = .int .i64 j ∧ j ≤ n2 ∧ kq ≤ 80000 ∧ Hid (∃ K : List Pw, K.length = kq ∧ kq ≤ kc ∧ PsS Any wr ka K ∧ KeysOf K (l.map (fun x => x.k.l) ++ (m.take j).map (fun x => x.k.l)) ∧ w.grownBy wr none)) (fun _ s16 _ => n2 - (intOf s16).toNat)
      case atStart => exact ⟨ka, kq, kc, 0, rfl, rfl, by omega, hkq, Lib.hid (by
        obtain ⟨K, hK, hkc, hp, hko, hg⟩ := I.out
        rw [Hn.out, List.take_length] at hko
        exact ⟨K, hK, hkc, hp, by simpa using hko, hg⟩)⟩
      case round =>
        obtain ⟨ka, kq, kc, j, rfl, rfl, hj, hkq, I⟩ := hrel
        by_cases hlt : j < n2
        · obtain ⟨K, hK, hkc, hp, hko, hg⟩ := I.out
          have hjl : j < m.length := by rw [← Hn2.out]; exact hlt
          obtain ⟨b, off, ha, hb1, c0, c1⟩ := (H.out.2.keep (.of hg)).at (i := j) hjl
          have hkrow := ((H.out.2.keep (.of hg)).mem (i := j) hjl).1
          have hgk := HS.out.2.2.2 (m.getD j default) (by simp [List.getD, hjl])
          have hpu := refPut_any Any ka (m.getD j default).k.a none kc (m.getD j default).k.cap 0 K (m.getD j default).k.l [] wr (fun _ _ => trivial) hp (by omega) hkrow (rwsNil _ _) hgk hko.good (by omega)
          have hko' := hko.put (m.getD j default).k ⟨none, 0, []⟩ hgk
          have hlen : (insP ⟨(m.getD j default).k, ⟨none, 0, []⟩⟩ (delP (m.getD j default).k.l K)).length ≤ 80000 := by
            have := hko'.few
            simp only [List.length_append, List.length_map, List.length_take, List.length_singleton] at this
            have := Hn.out
            have := Hn2.out
            omega
          have hseen : l.map (fun x => x.k.l) ++ (m.take (j + 1)).map (fun x => x.k.l) = (l.map (fun x => x.k.l) ++ (m.take j).map (fun x => x.k.l)) ++ [(m.getD j default).k.l] := by
            rw [take_at hjl]; simp
          rw [← hseen] at hko'
          have hku : (⟨(m.getD j default).k.a, (m.getD j default).k.cap, (m.getD j default).k.l⟩ : Rw) = (m.getD j default).k := rfl
          rw [hku, hK] at hpu
          generalize insP ⟨(m.getD j default).k, ⟨none, 0, []⟩⟩ (delP (m.getD j default).k.l K) = K' at *
          generalize m.getD j default = x at *
          obtain ⟨⟨xka, xkc, xkl⟩, ⟨xra, xrc, xrl⟩⟩ := x
          simp only [Rw.v] at c0 hpu
          obtain ⟨y, hy⟩ : ∃ y, y = xkl.length := ⟨_, rfl⟩
          obtain ⟨q', hq'⟩ : ∃ q', q' = K'.length := ⟨_, rfl⟩
          rw [← hy] at c0 hpu
          rw [← hq'] at hpu hlen
          simp only [List.length_nil] at hpu
          have HPu := Lib.hid hpu
          have D := Lib.hid (And.intro hko' (And.intro hg hq'))
          have HA := Lib.hid ha
          have i1 : (j : Int) ≤ cap2 := by omega
          clear hK hkc hp hko hg hkrow hgk hpu hko' hseen hku hy hq' hjl c1 I
          subst ha
          go_wp2_with fail
          refine HPu.out.mono ?_
          rintro e w2 ⟨⟨a', cap', rfl, hc', hp'⟩, hg2⟩
          have E := Lib.hid (And.intro hc' (And.intro hp' hg2))
          clear hc' hp' hg2 HPu
          go_wp2_with fail
          go_roundw
          case rel => exact ⟨a', q', cap', j + 1, rfl, by go_num, by omega, hlen, Lib.hid ⟨K', D.out.2.2.symm, E.out.1, E.out.2.1, D.out.1, D.out.2.1.trans E.out.2.2⟩⟩
          case measure => simp [intOf]; omega
        · obtain rfl : j = n2 := by omega
          obtain ⟨K, hK, hkc, hp, hko, hg⟩ := I.out
          rw [Hn2.out, List.take_length] at hko
          have hfin := hko.final HS.out.1 HS.out.2.1
          have D := Lib.hid (And.intro hp (And.intro hg hfin))
          have HK := Lib.hid hK
          generalize hwr : wr = w3 at *
          clear hwr hp hg hko hfin hK I
          obtain ⟨i0, hi0, hz0, hz1, hz2⟩ := info_partsT chg_info
          have HI := Lib.hid (And.intro hi0 (And.intro hz0 (And.intro hz1 hz2)))
          clear hi0 hz0 hz1 hz2
          go_wp2_with fail
          go_loopw [8, 42] (fun s8 s42 wr => ∃ (ao : Ptr) (q co j : Nat), s8 = .slice ao q co ∧ s42 = .int .i64 j ∧ j ≤ kq ∧ q ≤ j ∧ Hid (∃ O : List Cw, O.length = q ∧ OutR w wr (.slice ao q co) O w3.heap.size ∧ O.map Cw.p = ((K.map (fun x => x.k.l)).take j).flatMap (askL (l.map Pw.p) (m.map Pw.p)) ∧ w3.grownBy wr none)) (fun _ s42 _ => kq - (intOf s42).toNat)
          case atStart => exact ⟨none, 0, 0, 0, rfl, rfl, by omega, by omega, Lib.hid ⟨[], rfl, ⟨World.ownsRow_nil _ _ _ _, by simp⟩, by simp, grown_reflT _ _⟩⟩
          case round =>
            obtain ⟨ao, q, co, j, rfl, rfl, hj3, hqj, I⟩ := hrel
            by_cases hlt3 : j < kq
            · obtain ⟨O, hO, hor, hop, hgr⟩ := I.out
              have hjK : j < K.length := by rw [HK.out]; exact hlt3
              obtain ⟨b, off, rfl, hb1, c0, _⟩ := (D.out.1.keep (.of hgr)).at (i := j) hjK
              have hkrow := ((D.out.1.keep (.of hgr)).mem (i := j) hjK).1
              have HT := Lib.hid (take_flat (f := askL (l.map Pw.p) (m.map Pw.p)) (L := K.map (fun x => x.k.l)) (j := j) (by simpa using hjK))
              have hgd : (K.map (fun x => x.k.l)).getD j [] = (K.getD j default).k.l := by simp [List.getD, hjK]
              rw [hgd] at HT
              generalize K.getD j default = x at *
              obtain ⟨⟨xka, xkc, xkl⟩, ⟨xra, xrc, xrl⟩⟩ := x
              simp only [Rw.v] at c0 hkrow HT
              have hgw := D.out.2.1.trans hgr
              have G1 := Lib.hid (HG.out wr hgw xka xkc xkl hkrow.row)
              have G2 := Lib.hid (fun W (hW : wr.grownBy W none) => HG2.out W (hgw.trans hW) xka xkc xkl ((hkrow.keep (.of hW)).row))
              have F := Lib.hid (fun (W : World) (hW : wr.grownBy W none) => hW.cell c0 (by simp))
              have E := Lib.hid (And.intro hO (And.intro hor (And.intro hop hgr)))
              obtain ⟨y, hy⟩ : ∃ y, y = xkl.length := ⟨_, rfl⟩
              rw [← hy] at c0 G1 G2 F
              have i1 : (j : Int) ≤ kc := by omega
              clear hO hor hop hgr hjK hkrow hgd hgw hy I
              go_wp2_with fail
              refine G1.out.mono ?_
              rintro e w4 ⟨hr1, hg4⟩
              have G4 := Lib.hid hg4
              have d0 := F.out _ hg4
              clear hg4 c0 G1
              rcases hr1 with ⟨x1, hx1, rfl, hl1⟩ | ⟨rfl, hl1⟩
              · have HX1 := Lib.hid (And.intro (H.out.1.2.1 x1 hx1).2 hl1)
                clear hx1 hl1
                obtain ⟨xk1, ⟨xa, xc, xl⟩⟩ := x1
                simp only [Rw.v] at HX1 ⊢
                obtain ⟨n1, hn1⟩ : ∃ n1, n1 = xl.length := ⟨_, rfl⟩
                have Hn1 := Lib.hid hn1
                rw [← hn1]
                clear hn1
                go_wp2_with fail
                refine (G2.out _ G4.out).mono ?_
                rintro e w5 ⟨hr2, hg5⟩
                have G5 := Lib.hid (G4.out.trans hg5)
                clear hg5 d0 G2 F
                rcases hr2 with ⟨x2, hx2, rfl, hl2⟩ | ⟨rfl, hl2⟩
                · have HX2 := Lib.hid (And.intro (H.out.2.2.1 x2 hx2).2 hl2)
                  clear hx2 hl2
                  obtain ⟨xk2, ⟨ya, yc, yl⟩⟩ := x2
                  simp only [Rw.v] at HX2 ⊢
                  obtain ⟨n3, hn3⟩ : ∃ n3, n3 = yl.length := ⟨_, rfl⟩
                  have Hn3 := Lib.hid hn3
                  rw [← hn3]
                  clear hn3
                  have hgw5 : w.grownBy w5 none := D.out.2.1.trans (E.out.2.2.2.trans G5.out)
                  have HSm := Lib.hid ((refSame_any xa ya xc yc xl yl w5 ((HX1.out.1.keep (.of hgw5)).row) ((HX2.out.1.keep (.of hgw5)).row)).mono fun e w' h => And.intro h.1 (grown_belowT h.2 none))
                  rw [← Hn1.out, ← Hn3.out] at HSm
                  obtain ⟨bz, hbz⟩ : ∃ bz : Bool, bz = (rowsOrd xl yl == 0) := ⟨_, rfl⟩
                  have HBz := Lib.hid hbz
                  rw [← hbz] at HSm
                  clear hbz hgw5
                  have G50 := Lib.hid G5.out
                  clear G5
                  go_wp2_with fail
                  refine HSm.out.mono ?_
                  rintro e w5' ⟨rfl, hg5'⟩
                  have G5 := Lib.hid (G50.out.trans hg5')
                  clear hg5' HSm
                  generalize w5' = w5 at *
                  cases bz
                  case false =>
                    have HZ := Lib.hid (show rowsOrd xl yl ≠ 0 by simpa using HBz.out.symm)
                    have O5 := Lib.hid (show w5.ownsRow w3.heap.size 93 3 (.slice ao q co) q (O.flatMap Cw.c) by have := World.ownsRow.kept E.out.2.1.own G5.out (by cases (Value.slice ao q co).ownBlock <;> simp); rw [E.out.1] at this; exact this)
                    have hB5 : w3.heap.size ≤ w5.heap.size := (E.out.2.2.2.trans G5.out).size
                    have hcl := cc_len O
                    go_wp2_with (at_builtin; refine wpList_append_lies _ rfl _ _ 46 rfl w3.heap.size 93 i0 (.agg #[.string ⟨#[]⟩, .slice none 0 0, .slice none 0 0]) 3 64 Try.underlying46 HI.out.1 HI.out.2.1 HI.out.2.2.1 HI.out.2.2.2 rfl (by decide) (.slice ao q co) q (O.flatMap Cw.c) rfl (World.ownsRow.alloc O5.out _) ⟨w5.heap.size, 0, none⟩ 1 1 [.string ⟨#[]⟩, .slice xa n1 xc, .slice ya n3 yc] rfl rfl (World.news_of_block (heap_alloc_new w5 _)) (by intro u hu; simp only [List.mem_cons, List.not_mem_nil, or_false] at hu; rcases hu with rfl | rfl | rfl <;> rfl) (by decide) (by unfold maxLen; omega) (by omega) (by simp; omega) _ rfl ?_)
                    intro g cp w6 hown6 hgrow6 _ _
                    have S6 := Lib.hid (And.intro hown6 hgrow6)
                    clear hown6 hgrow6 hcl O5
                    go_wp2_with fail
                    go_roundw
                    case rel =>
                      obtain ⟨hown6, hgrow6⟩ := S6.out
                      refine ⟨some ⟨g, 0, none⟩, q + 1, cp, j + 1, rfl, by go_num, by omega, by omega, Lib.hid ⟨O ++ [⟨⟨xa, xc, xl⟩, ⟨ya, yc, yl⟩⟩], by rw [List.length_append, E.out.1]; rfl, ⟨?_, fun z hz => ?_⟩, ?_, ?_⟩⟩
                      · rw [List.length_append, List.flatMap_append, List.flatMap_cons, List.flatMap_nil, List.append_nil, E.out.1]
                        rw [Hn1.out, Hn3.out] at hown6
                        exact hown6
                      · rw [List.mem_append] at hz
                        rcases hz with hz | hz
                        · exact E.out.2.1.rows z hz
                        · obtain rfl := List.mem_singleton.1 hz
                          exact ⟨HX1.out.1, HX2.out.1⟩
                      · rw [HT.out, ask_ss HX1.out.2 HX2.out.2, if_neg HZ.out, List.map_append, E.out.2.2.1]; rfl
                      · exact grown_thenT ((E.out.2.2.2.trans G5.out).trans (World.grownBy_alloc w5 _ none)) hgrow6 (fun b e => (World.ownsRow.lt E.out.2.1.own b e).1)
                    case measure => simp [intOf]; omega
                  case true =>
                    have HZ := Lib.hid (show rowsOrd xl yl = 0 by simpa using HBz.out.symm)
                    go_wp2_with fail
                    go_roundw
                    case rel => exact ⟨ao, q, co, j + 1, rfl, by go_num, by omega, by omega, Lib.hid ⟨O, E.out.1, ⟨World.ownsRow.kept E.out.2.1.own G5.out (by cases (Value.slice ao q co).ownBlock <;> simp), E.out.2.1.rows⟩, by rw [HT.out, ask_ss HX1.out.2 HX2.out.2, if_pos HZ.out, List.append_nil, E.out.2.2.1], E.out.2.2.2.trans G5.out⟩⟩
                    case measure => simp [intOf]; omega
                · have HX2 := Lib.hid hl2
                  clear hl2
                  have O5 := Lib.hid (show w5.ownsRow w3.heap.size 93 3 (.slice ao q co) q (O.flatMap Cw.c) by have := World.ownsRow.kept E.out.2.1.own G5.out (by cases (Value.slice ao q co).ownBlock <;> simp); rw [E.out.1] at this; exact this)
                  have hB5 : w3.heap.size ≤ w5.heap.size := (E.out.2.2.2.trans G5.out).size
                  have hcl := cc_len O
                  go_wp2_with (at_builtin; refine wpList_append_lies _ rfl _ _ 46 rfl w3.heap.size 93 i0 (.agg #[.string ⟨#[]⟩, .slice none 0 0, .slice none 0 0]) 3 64 Try.underlying46 HI.out.1 HI.out.2.1 HI.out.2.2.1 HI.out.2.2.2 rfl (by decide) (.slice ao q co) q (O.flatMap Cw.c) rfl (World.ownsRow.alloc O5.out _) ⟨w5.heap.size, 0, none⟩ 1 1 [.string ⟨#[]⟩, .slice xa n1 xc, .slice none 0 0] rfl rfl (World.news_of_block (heap_alloc_new w5 _)) (by intro u hu; simp only [List.mem_cons, List.not_mem_nil, or_false] at hu; rcases hu with rfl | rfl | rfl <;> rfl) (by decide) (by unfold maxLen; omega) (by omega) (by simp; omega) _ rfl ?_)
                  intro g cp w6 hown6 hgrow6 _ _
                  have S6 := Lib.hid (And.intro hown6 hgrow6)
                  clear hown6 hgrow6 hcl O5
                  go_wp2_with fail
                  go_roundw
                  case rel =>
                    obtain ⟨hown6, hgrow6⟩ := S6.out
                    refine ⟨some ⟨g, 0, none⟩, q + 1, cp, j + 1, rfl, by go_num, by omega, by omega, Lib.hid ⟨O ++ [⟨⟨xa, xc, xl⟩, ⟨none, 0, []⟩⟩], by rw [List.length_append, E.out.1]; rfl, ⟨?_, fun z hz => ?_⟩, ?_, ?_⟩⟩
                    · rw [List.length_append, List.flatMap_append, List.flatMap_cons, List.flatMap_nil, List.append_nil, E.out.1]
                      rw [Hn1.out] at hown6
                      exact hown6
                    · rw [List.mem_append] at hz
                      rcases hz with hz | hz
                      · exact E.out.2.1.rows z hz
                      · obtain rfl := List.mem_singleton.1 hz
                        exact ⟨HX1.out.1, rwsNil _ _⟩
                    · rw [HT.out, ask_so HX1.out.2 HX2.out, List.map_append, E.out.2.2.1]; rfl
                    · exact grown_thenT ((E.out.2.2.2.trans G5.out).trans (World.grownBy_alloc w5 _ none)) hgrow6 (fun b e => (World.ownsRow.lt E.out.2.1.own b e).1)
                  case measure => simp [intOf]; omega
              · have HX1 := Lib.hid hl1
                clear hl1
                go_wp2_with fail
                refine (G2.out _ G4.out).mono ?_
                rintro e w5 ⟨hr2, hg5⟩
                have G5 := Lib.hid (G4.out.trans hg5)
                clear hg5 d0 G2 F
                rcases hr2 with ⟨x2, hx2, rfl, hl2⟩ | ⟨rfl, hl2⟩
                · have HX2 := Lib.hid (And.intro (H.out.2.2.1 x2 hx2).2 hl2)
                  clear hx2 hl2
                  obtain ⟨xk2, ⟨ya, yc, yl⟩⟩ := x2
                  simp only [Rw.v] at HX2 ⊢
                  obtain ⟨n3, hn3⟩ : ∃ n3, n3 = yl.length := ⟨_, rfl⟩
                  have Hn3 := Lib.hid hn3
                  rw [← hn3]
                  clear hn3
                  have O5 := Lib.hid (show w5.ownsRow w3.heap.size 93 3 (.slice ao q co) q (O.flatMap Cw.c) by have := World.ownsRow.kept E.out.2.1.own G5.out (by cases (Value.slice ao q co).ownBlock <;> simp); rw [E.out.1] at this; exact this)
                  have hB5 : w3.heap.size ≤ w5.heap.size := (E.out.2.2.2.trans G5.out).size
                  have hcl := cc_len O
                  go_wp2_with (at_builtin; refine wpList_append_lies _ rfl _ _ 46 rfl w3.heap.size 93 i0 (.agg #[.string ⟨#[]⟩, .slice none 0 0, .slice none 0 0]) 3 64 Try.underlying46 HI.out.1 HI.out.2.1 HI.out.2.2.1 HI.out.2.2.2 rfl (by decide) (.slice ao q co) q (O.flatMap Cw.c) rfl (World.ownsRow.alloc O5.out _) ⟨w5.heap.size, 0, none⟩ 1 1 [.string ⟨#[]⟩, .slice none 0 0, .slice ya n3 yc] rfl rfl (World.news_of_block (heap_alloc_new w5 _)) (by intro u hu; simp only [List.mem_cons, List.not_mem_nil, or_false] at hu; rcases hu with rfl | rfl | rfl <;> rfl) (by decide) (by unfold maxLen; omega) (by omega) (by simp; omega) _ rfl ?_)
                  intro g cp w6 hown6 hgrow6 _ _
                  have S6 := Lib.hid (And.intro hown6 hgrow6)
                  clear hown6 hgrow6 hcl O5
                  go_wp2_with fail
                  go_roundw
                  case rel =>
                    obtain ⟨hown6, hgrow6⟩ := S6.out
                    refine ⟨some ⟨g, 0, none⟩, q + 1, cp, j + 1, rfl, by go_num, by omega, by omega, Lib.hid ⟨O ++ [⟨⟨none, 0, []⟩, ⟨ya, yc, yl⟩⟩], by rw [List.length_append, E.out.1]; rfl, ⟨?_, fun z hz => ?_⟩, ?_, ?_⟩⟩
                    · rw [List.length_append, List.flatMap_append, List.flatMap_cons, List.flatMap_nil, List.append_nil, E.out.1]
                      rw [Hn3.out] at hown6
                      exact hown6
                    · rw [List.mem_append] at hz
                      rcases hz with hz | hz
                      · exact E.out.2.1.rows z hz
                      · obtain rfl := List.mem_singleton.1 hz
                        exact ⟨rwsNil _ _, HX2.out.1⟩
                    · rw [HT.out, ask_no HX1.out HX2.out.2, List.map_append, E.out.2.2.1]; rfl
                    · exact grown_thenT ((E.out.2.2.2.trans G5.out).trans (World.grownBy_alloc w5 _ none)) hgrow6 (fun b e => (World.ownsRow.lt E.out.2.1.own b e).1)
                  case measure => simp [intOf]; omega
                · have HX2 := Lib.hid hl2
                  clear hl2
                  go_wp2_with fail
                  go_roundw
                  case rel => exact ⟨ao, q, co, j + 1, rfl, by go_num, by omega, by omega, Lib.hid ⟨O, E.out.1, ⟨World.ownsRow.kept E.out.2.1.own G5.out (by cases (Value.slice ao q co).ownBlock <;> simp), E.out.2.1.rows⟩, by rw [HT.out, ask_nn HX1.out HX2.out, List.append_nil, E.out.2.2.1], E.out.2.2.2.trans G5.out⟩⟩
                  case measure => simp [intOf]; omega
            · obtain rfl : j = kq := by omega
              obtain ⟨O, hO, hor, hop, hgr⟩ := I.out
              have E := Lib.hid (And.intro hO (And.intro hor (And.intro hop hgr)))
              clear hO hor hop hgr I
              go_wp2_with fail
              go_ret
              obtain ⟨hO, hor, hop, hgr⟩ := E.out
              have hgw := D.out.2.1.trans hgr
              obtain ⟨a', cap', hv, hc', hcs⟩ := own_cs hor.own (by omega) (fun x hx => ⟨(hor.rows x hx).1.keep (.of hgw), (hor.rows x hx).2.keep (.of hgw)⟩)
              refine ⟨⟨a', cap', O, congrArg Ending.returned hv, hc', hcs, ?_⟩, hgw⟩
              rw [hop, List.take_of_length_le (by rw [List.length_map, HK.out]; exact Nat.le_refl _), D.out.2.2]
              exact (diffL_asks _ _ HS.out.1 HS.out.2.1).symm
end Go.Proofs.Ytlmoefiajioeoaa
