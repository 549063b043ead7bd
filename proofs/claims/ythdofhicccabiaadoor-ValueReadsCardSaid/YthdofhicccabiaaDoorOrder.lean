/- The law ValueOrder walked: true at any three values. -/
import Derived.Test.YthdofhicccabiaaDoorGoodLaw
import Derived.Test.YthdofhicccabiaaDoorOrdMath
namespace Go.Proofs.YthdofhicccabiaaDoor
open Go.RowKit

/-- How far a run has come: nothing old has turned, and c blocks at least are new. -/
def Ran (w : World) (c : Nat) (w1 : World) : Prop := Below w.heap.size w w1 ∧ w.heap.size + c ≤ w1.heap.size
theorem Ran.step {w w1 w2 : World} {c : Nat} (h : Ran w c w1) (hb : Below w1.heap.size w1 w2) : Ran w c w2 :=
  ⟨h.1.trans (hb.mono (by have := h.2; omega)), by have := h.2; have := hb.size; omega⟩
theorem Ran.cell {w w1 w2 : World} {c : Nat} (h : Ran w c w1) (hb : Below w1.heap.size w1 w2) {b o : Nat} (hlt : b < w.heap.size + c) {v : Option Value} (hv : w1.cell? ⟨b, o, none⟩ = v) : w2.cell? ⟨b, o, none⟩ = v :=
  (hb.cell (p := ⟨b, o, none⟩) (by have := h.2; show b < _; omega)).trans hv

theorem keep9 {w w1 w2 : World} {v0 v1 v2 u0 u1 u2 x0 x1 x2 : Value}
    (K : Ran w 3 w1 ∧ w1.cell? ⟨w.heap.size, 0, none⟩ = some v0 ∧ w1.cell? ⟨w.heap.size, 1, none⟩ = some v1 ∧ w1.cell? ⟨w.heap.size, 2, none⟩ = some v2 ∧ w1.cell? ⟨w.heap.size + 1, 0, none⟩ = some u0 ∧ w1.cell? ⟨w.heap.size + 1, 1, none⟩ = some u1 ∧ w1.cell? ⟨w.heap.size + 1, 2, none⟩ = some u2 ∧ w1.cell? ⟨w.heap.size + 1 + 1, 0, none⟩ = some x0 ∧ w1.cell? ⟨w.heap.size + 1 + 1, 1, none⟩ = some x1 ∧ w1.cell? ⟨w.heap.size + 1 + 1, 2, none⟩ = some x2)
    (hb : Below w1.heap.size w1 w2) :
    Ran w 3 w2 ∧ w2.cell? ⟨w.heap.size, 0, none⟩ = some v0 ∧ w2.cell? ⟨w.heap.size, 1, none⟩ = some v1 ∧ w2.cell? ⟨w.heap.size, 2, none⟩ = some v2 ∧ w2.cell? ⟨w.heap.size + 1, 0, none⟩ = some u0 ∧ w2.cell? ⟨w.heap.size + 1, 1, none⟩ = some u1 ∧ w2.cell? ⟨w.heap.size + 1, 2, none⟩ = some u2 ∧ w2.cell? ⟨w.heap.size + 1 + 1, 0, none⟩ = some x0 ∧ w2.cell? ⟨w.heap.size + 1 + 1, 1, none⟩ = some x1 ∧ w2.cell? ⟨w.heap.size + 1 + 1, 2, none⟩ = some x2 := by
  obtain ⟨r, a0, a1, a2, b0, b1, b2, c0, c1, c2⟩ := K
  exact ⟨r.step hb, r.cell hb (by omega) a0, r.cell hb (by omega) a1, r.cell hb (by omega) a2, r.cell hb (by omega) b0, r.cell hb (by omega) b1, r.cell hb (by omega) b2, r.cell hb (by omega) c0, r.cell hb (by omega) c1, r.cell hb (by omega) c2⟩
theorem start9 (w : World) (v0 v1 v2 u0 u1 u2 x0 x1 x2 : Value) (T : TypeId) {W : World} (hW : W = ((w.alloc (.cells #[v0, v1, v2] T)).alloc (.cells #[u0, u1, u2] T)).alloc (.cells #[x0, x1, x2] T)) :
    Ran w 3 W ∧ W.cell? ⟨w.heap.size, 0, none⟩ = some v0 ∧ W.cell? ⟨w.heap.size, 1, none⟩ = some v1 ∧ W.cell? ⟨w.heap.size, 2, none⟩ = some v2 ∧ W.cell? ⟨w.heap.size + 1, 0, none⟩ = some u0 ∧ W.cell? ⟨w.heap.size + 1, 1, none⟩ = some u1 ∧ W.cell? ⟨w.heap.size + 1, 2, none⟩ = some u2 ∧ W.cell? ⟨w.heap.size + 1 + 1, 0, none⟩ = some x0 ∧ W.cell? ⟨w.heap.size + 1 + 1, 1, none⟩ = some x1 ∧ W.cell? ⟨w.heap.size + 1 + 1, 2, none⟩ = some x2 := by
  subst hW
  refine ⟨⟨below3 _ _ _ _, by simp⟩, ?_⟩
  have e0 := heap_new3a w (.cells #[v0, v1, v2] T) (.cells #[u0, u1, u2] T) (.cells #[x0, x1, x2] T)
  have e1 := heap_new3b w (.cells #[v0, v1, v2] T) (.cells #[u0, u1, u2] T) (.cells #[x0, x1, x2] T)
  have e2 := heap_new3 w (.cells #[v0, v1, v2] T) (.cells #[u0, u1, u2] T) (.cells #[x0, x1, x2] T)
  simp only [World.cell?, e0, e1, e2]
  simp

/-- value.Compare's answer under one name. -/
theorem cmpC_any (ak an : Int) (sa : ByteArray) (bk bn : Int) (sb : ByteArray) (w : World) :
    Calls Tryd.prog 13 #[.agg #[.int .i64 ak, .int .i64 an, .string sa], .agg #[.int .i64 bk, .int .i64 bn, .string sb]] w fun e w' => e = .returned (.int .i64 (ordC ak an sa bk bn sb)) ∧ Below w.heap.size w w' := compare_any ak an sa bk bn sb w

set_option maxHeartbeats 800000 in
theorem order_bad (ak an : Int) (sa : ByteArray) (bk bn : Int) (sb : ByteArray) (ck cn : Int) (sc : ByteArray) (w : World) (h : ¬ (goodB ak an sa = true ∧ goodB bk bn sb = true ∧ goodB ck cn sc = true)) :
    Calls Tryd.prog 4 #[.agg #[.int .i64 ak, .int .i64 an, .string sa], .agg #[.int .i64 bk, .int .i64 bn, .string sb], .agg #[.int .i64 ck, .int .i64 cn, .string sc]] w fun e w' => e = .returned (.bool true) ∧ Below w.heap.size w w' := by
  have HA := Lib.hid (refGood_any ak an sa)
  have HB := Lib.hid (refGood_any bk bn sb)
  have HC := Lib.hid (refGood_any ck cn sc)
  generalize goodB ak an sa = ga at *
  generalize goodB bk bn sb = gb at *
  generalize goodB ck cn sc = gc at *
  go_enter Tryd.func4, Tryd.ntmps4
  go_wp2_with fail
  have K := start9 w _ _ _ _ _ _ _ _ _ _ (Eq.refl (((w.alloc (.cells #[.int .i64 ak, .int .i64 an, .string sa] 24)).alloc (.cells #[.int .i64 bk, .int .i64 bn, .string sb] 24)).alloc (.cells #[.int .i64 ck, .int .i64 cn, .string sc] 24)))
  refine (awake_any _).mono ?_
  rintro e w1 ⟨rfl, hb⟩
  replace K := keep9 K hb
  clear hb
  go_wp2_with fail
  refine (HA.out _).mono ?_
  rintro e w2 ⟨rfl, hb⟩
  replace K := keep9 K hb
  clear hb
  cases ga
  · go_wp2_with fail
    refine (awake_any _).mono ?_
    rintro e w3 ⟨rfl, hb⟩
    replace K := keep9 K hb
    clear hb
    go_wp2_with fail
    go_ret
    exact ⟨rfl, K.1.1⟩
  · go_wp2_with fail
    refine (HB.out _).mono ?_
    rintro e w3 ⟨rfl, hb⟩
    replace K := keep9 K hb
    clear hb
    cases gb
    · go_wp2_with fail
      refine (awake_any _).mono ?_
      rintro e w4 ⟨rfl, hb⟩
      replace K := keep9 K hb
      clear hb
      go_wp2_with fail
      go_ret
      exact ⟨rfl, K.1.1⟩
    · go_wp2_with fail
      refine (HC.out _).mono ?_
      rintro e w4 ⟨rfl, hb⟩
      replace K := keep9 K hb
      clear hb
      cases gc
      · go_wp2_with fail
        refine (awake_any _).mono ?_
        rintro e w5 ⟨rfl, hb⟩
        replace K := keep9 K hb
        clear hb
        go_wp2_with fail
        go_ret
        exact ⟨rfl, K.1.1⟩
      · exact absurd (by simp) h

set_option maxHeartbeats 800000 in
theorem order_good (ak an : Int) (sa : ByteArray) (bk bn : Int) (sb : ByteArray) (ck cn : Int) (sc : ByteArray) (w : World) (hsa : sa.size ≤ maxLen) (ha : goodB ak an sa = true) (hb : goodB bk bn sb = true) (hc : goodB ck cn sc = true) :
    Calls Tryd.prog 4 #[.agg #[.int .i64 ak, .int .i64 an, .string sa], .agg #[.int .i64 bk, .int .i64 bn, .string sb], .agg #[.int .i64 ck, .int .i64 cn, .string sc]] w fun e w' => e = .returned (.bool true) ∧ Below w.heap.size w w' := by
  have HA : Hid (∀ w, Calls Tryd.prog 12 #[.agg #[.int .i64 ak, .int .i64 an, .string sa]] w fun e w' => e = .returned (.bool true) ∧ Below w.heap.size w w') := Lib.hid fun w => ha ▸ refGood_any ak an sa w
  have HB : Hid (∀ w, Calls Tryd.prog 12 #[.agg #[.int .i64 bk, .int .i64 bn, .string sb]] w fun e w' => e = .returned (.bool true) ∧ Below w.heap.size w w') := Lib.hid fun w => hb ▸ refGood_any bk bn sb w
  have HC : Hid (∀ w, Calls Tryd.prog 12 #[.agg #[.int .i64 ck, .int .i64 cn, .string sc]] w fun e w' => e = .returned (.bool true) ∧ Below w.heap.size w w') := Lib.hid fun w => hc ▸ refGood_any ck cn sc w
  have HR : Hid (∀ w, Calls Tryd.prog 14 #[.agg #[.int .i64 ak, .int .i64 an, .string sa], .agg #[.int .i64 bk, .int .i64 bn, .string sb]] w fun e w' => e = .returned (.int .i64 (ordC ak an sa bk bn sb)) ∧ Below w.heap.size w w') := Lib.hid fun w => ordC_ordV ha hb ▸ refCompare_any ak an sa bk bn sb w hsa
  have HT : Hid (∀ w, Calls Tryd.prog 13 #[.agg #[.int .i64 bk, .int .i64 bn, .string sb], .agg #[.int .i64 ak, .int .i64 an, .string sa]] w fun e w' => e = .returned (.int .i64 (-ordC ak an sa bk bn sb)) ∧ Below w.heap.size w w') := Lib.hid fun w => ordC_turn ak an sa bk bn sb ▸ cmpC_any bk bn sb ak an sa w
  clear ha hb hc hsa
  go_enter Tryd.func4, Tryd.ntmps4
  go_wp2_with fail
  have K := start9 w _ _ _ _ _ _ _ _ _ _ (Eq.refl (((w.alloc (.cells #[.int .i64 ak, .int .i64 an, .string sa] 24)).alloc (.cells #[.int .i64 bk, .int .i64 bn, .string sb] 24)).alloc (.cells #[.int .i64 ck, .int .i64 cn, .string sc] 24)))
  refine (awake_any _).mono ?_
  rintro e w1 ⟨rfl, hb⟩
  replace K := keep9 K hb
  clear hb
  go_wp2_with fail
  refine (HA.out _).mono ?_
  rintro e w2 ⟨rfl, hb⟩
  replace K := keep9 K hb
  clear hb w1
  go_wp2_with fail
  refine (HB.out _).mono ?_
  rintro e w3 ⟨rfl, hb⟩
  replace K := keep9 K hb
  clear hb w2
  go_wp2_with fail
  refine (HC.out _).mono ?_
  rintro e w4 ⟨rfl, hb⟩
  replace K := keep9 K hb
  clear hb w3
  go_wp2_with fail
  go_region_held3 (fun w' => w'.cell? ⟨w.heap.size, 0, none⟩ = some (.int .i64 ak) ∧ w'.cell? ⟨w.heap.size, 1, none⟩ = some (.int .i64 an) ∧ w'.cell? ⟨w.heap.size, 2, none⟩ = some (.string sa) ∧ w'.cell? ⟨w.heap.size + 1, 0, none⟩ = some (.int .i64 bk) ∧ w'.cell? ⟨w.heap.size + 1, 1, none⟩ = some (.int .i64 bn) ∧ w'.cell? ⟨w.heap.size + 1, 2, none⟩ = some (.string sb) ∧ w'.cell? ⟨w.heap.size + 1 + 1, 0, none⟩ = some (.int .i64 ck) ∧ w'.cell? ⟨w.heap.size + 1 + 1, 1, none⟩ = some (.int .i64 cn) ∧ w'.cell? ⟨w.heap.size + 1 + 1, 2, none⟩ = some (.string sc)) (first | go_keep | exact K.2) (first | (go_at_call 13; refine (cmpC_any _ _ _ _ _ _ _).mono ?_; rintro e w5 ⟨rfl, hb⟩; first | replace K := keep9 K hb | replace K := keep9 K ((Below.refl _ _).drew.trans hb)))
  obtain ⟨lo, hi⟩ := ordC_range ak an sa bk bn sb
  go_wp2_with fail
  refine (HR.out _).mono ?_
  rintro e w6 ⟨rfl, hb⟩
  replace K := keep9 K hb
  clear hb
  go_wp2_with fail
  refine (HT.out _).mono ?_
  rintro e w7 ⟨rfl, hb⟩
  replace K := keep9 K hb
  clear hb
  have hzero := ordC_zero ak an sa bk bn sb
  have htr := ordC_trans ak an sa bk bn sb ck cn sc
  clear HR HT HA HB HC
  by_cases h1 : ak = bk
  · by_cases h2 : an = bn
    · by_cases h3 : sa.toList = sb.toList
      · have hs : sa = sb := bytes_ext (by rw [← Lib.toList_data, ← Lib.toList_data, h3])
        have hx := hzero.2 ⟨h1, h2, hs⟩
        subst h1 h2 hs
        clear hzero h3
        generalize ordC ak an sa ak an sa = x at *
        generalize ordC ak an sa ck cn sc = z at *
        subst hx
        clear lo hi
        by_cases g1 : 0 < z
        · clear htr
          go_wp2_with fail
          go_ret
          exact ⟨rfl, K.1.1⟩
        · have g2 : z ≤ 0 := by omega
          by_cases g3 : z < 0
          · clear htr g1 g2
            go_wp2_with fail
            go_ret
            exact ⟨rfl, K.1.1⟩
          · obtain rfl : z = 0 := by omega
            clear htr g1 g2 g3
            go_wp2_with fail
            go_ret
            exact ⟨rfl, K.1.1⟩
      · have hne : ordC ak an sa bk bn sb ≠ 0 := fun h => h3 (by rw [(hzero.1 h).2.2])
        subst h1 h2
        clear hzero
        generalize ordC ak an sa ak an sb = x at *
        generalize ordC ak an sb ck cn sc = y at *
        generalize ordC ak an sa ck cn sc = z at *
        have hx0 : (x == 0) = false := by simpa using hne
        by_cases g1 : 0 < x
        · clear htr
          go_wp2_with fail
          go_ret
          exact ⟨rfl, K.1.1⟩
        · have g1' : x < 0 := by omega
          by_cases g2 : 0 < y
          · clear htr
            go_wp2_with fail
            go_ret
            exact ⟨rfl, K.1.1⟩
          · have g3 : z < 0 := by have := htr (by omega) (by omega); omega
            have g2' : y ≤ 0 := by omega
            clear htr g2
            go_wp2_with fail
            go_ret
            exact ⟨rfl, K.1.1⟩
    · have hne : ordC ak an sa bk bn sb ≠ 0 := fun h => h2 (hzero.1 h).2.1
      subst h1
      clear hzero
      generalize ordC ak an sa ak bn sb = x at *
      generalize ordC ak bn sb ck cn sc = y at *
      generalize ordC ak an sa ck cn sc = z at *
      have hx0 : (x == 0) = false := by simpa using hne
      by_cases g1 : 0 < x
      · clear htr
        go_wp2_with fail
        go_ret
        exact ⟨rfl, K.1.1⟩
      · have g1' : x < 0 := by omega
        by_cases g2 : 0 < y
        · clear htr
          go_wp2_with fail
          go_ret
          exact ⟨rfl, K.1.1⟩
        · have g3 : z < 0 := by have := htr (by omega) (by omega); omega
          have g2' : y ≤ 0 := by omega
          clear htr g2
          go_wp2_with fail
          go_ret
          exact ⟨rfl, K.1.1⟩
  · have hne : ordC ak an sa bk bn sb ≠ 0 := fun h => h1 (hzero.1 h).1
    clear hzero
    generalize ordC ak an sa bk bn sb = x at *
    generalize ordC bk bn sb ck cn sc = y at *
    generalize ordC ak an sa ck cn sc = z at *
    have hx0 : (x == 0) = false := by simpa using hne
    by_cases g1 : 0 < x
    · clear htr
      go_wp2_with fail
      go_ret
      exact ⟨rfl, K.1.1⟩
    · have g1' : x < 0 := by omega
      by_cases g2 : 0 < y
      · clear htr
        go_wp2_with fail
        go_ret
        exact ⟨rfl, K.1.1⟩
      · have g3 : z < 0 := by have := htr (by omega) (by omega); omega
        have g2' : y ≤ 0 := by omega
        clear htr g2
        go_wp2_with fail
        go_ret
        exact ⟨rfl, K.1.1⟩

theorem ValueOrder_any (ak an : Int) (sa : ByteArray) (bk bn : Int) (sb : ByteArray) (ck cn : Int) (sc : ByteArray) (w : World) (hsa : sa.size ≤ maxLen) (_ : sb.size ≤ maxLen) (_ : sc.size ≤ maxLen) :
    Calls Tryd.prog 4 #[.agg #[.int .i64 ak, .int .i64 an, .string sa], .agg #[.int .i64 bk, .int .i64 bn, .string sb], .agg #[.int .i64 ck, .int .i64 cn, .string sc]] w fun e w' => e = .returned (.bool true) ∧ Below w.heap.size w w' := by
  by_cases h : goodB ak an sa = true ∧ goodB bk bn sb = true ∧ goodB ck cn sc = true
  · exact order_good ak an sa bk bn sb ck cn sc w hsa h.1 h.2.1 h.2.2
  · exact order_bad ak an sa bk bn sb ck cn sc w h
end Go.Proofs.YthdofhicccabiaaDoor
