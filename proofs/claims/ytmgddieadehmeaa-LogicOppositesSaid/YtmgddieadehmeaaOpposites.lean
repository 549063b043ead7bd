/- The law LogicOpposites walked: true at any two values. -/
import Derived.Test.YtmgddieadehmeaaIn
namespace Go.Proofs.Ytmgddieadehmeaa
open Go.RowKit

/-- The opposite of the opposite's truth. -/
theorem opp_not {r : Int} (h1 : 1 ≤ r) (h6 : r ≤ 6) (x y : Vl) : ofT (oppT r) x y = notT (ofT r x y) := by
  have hc : ∀ o : Int, saysB (oppT r) o = !saysB r o := by
    intro o
    rcases rel_cases r with rfl | rfl | rfl | rfl | rfl | rfl | h
    · simp [oppT, saysB, bne]
    · simp [oppT, saysB, bne]
    · simp [oppT, saysB, ← decide_not]
    · simp [oppT, saysB, ← decide_not]
    · simp [oppT, saysB, ← decide_not]
    · simp [oppT, saysB, ← decide_not]
    · omega
  have hb : relB r = true := by simp [relB]; omega
  have hb' : relB (oppT r) = true := by
    rcases relB_cases hb with rfl | rfl | rfl | rfl | rfl | rfl <;> decide
  unfold ofT
  rw [hb, hb', hc]
  by_cases hx : x.k = 0
  · simp [hx, notT]
  · by_cases hy : y.k = 0
    · simp [hx, hy, notT]
    · cases saysB r (x.ord y) <;> simp [hx, hy, notT]
theorem turn_same {r : Int} (h1 : 1 ≤ r) (h6 : r ≤ 6) (x y : Vl) : ofT (turnT r) y x = ofT r x y := by
  have ht : y.ord x = - x.ord y := ordC_turn x.k x.n x.s y.k y.n y.s
  have hc : ∀ o : Int, saysB (turnT r) (-o) = saysB r o := by
    intro o
    have hz : (-o == 0) = (o == 0) := by rw [Bool.eq_iff_iff, beq_iff_eq, beq_iff_eq]; omega
    rcases rel_cases r with rfl | rfl | rfl | rfl | rfl | rfl | h
    · simp [turnT, saysB, hz]
    · simp [turnT, saysB, bne, hz]
    · simp [turnT, saysB]
    · simp [turnT, saysB]
    · simp [turnT, saysB]
    · simp [turnT, saysB]
    · omega
  have hb : relB r = true := by simp [relB]; omega
  have hb' : relB (turnT r) = true := by
    rcases relB_cases hb with rfl | rfl | rfl | rfl | rfl | rfl <;> decide
  unfold ofT
  rw [hb, hb', ht, hc]
  by_cases hx : x.k = 0
  · simp [hx]
  · by_cases hy : y.k = 0
    · simp [hx, hy]
    · simp [hx, hy]
theorem of_unknown {r : Int} (h1 : 1 ≤ r) (h6 : r ≤ 6) (x y : Vl) : (ofT r x y == 2) = ((x.k == 0) || (y.k == 0)) := by
  have hb : relB r = true := by simp [relB]; omega
  unfold ofT
  rw [hb]
  by_cases hx : x.k = 0
  · simp [hx]
  · by_cases hy : y.k = 0
    · simp [hx, hy]
    · cases saysB r (x.ord y) <;> simp [hx, hy]
theorem rel_b {r : Int} (h1 : 1 ≤ r) (h6 : r ≤ 6) : relB r = true := by simp [relB]; omega
theorem rel_ok {r : Int} (h1 : 1 ≤ r) (h6 : r ≤ 6) : relE r = 0 := by unfold relE; rw [rel_b h1 h6]; rfl
/-- Just one of <, =, > holds of two that aren't null. -/
theorem just_one (x y : Vl) : (ofT 3 x y = 2 ∧ ofT 1 x y = 2 ∧ ofT 5 x y = 2 ∧ (x.k = 0 ∨ y.k = 0)) ∨ (ofT 3 x y = 1 ∧ ofT 1 x y = 0 ∧ ofT 5 x y = 0) ∨ (ofT 3 x y = 0 ∧ ofT 1 x y = 1 ∧ ofT 5 x y = 0) ∨ (ofT 3 x y = 0 ∧ ofT 1 x y = 0 ∧ ofT 5 x y = 1) := by
  by_cases hx : x.k = 0
  · left; simp [ofT, hx, relB]
  · by_cases hy : y.k = 0
    · left; simp [ofT, hx, hy, relB]
    · right
      have e3 : ofT 3 x y = if x.ord y < 0 then 1 else 0 := by simp [ofT, hx, hy, relB, saysB]
      have e1 : ofT 1 x y = if x.ord y = 0 then 1 else 0 := by simp [ofT, hx, hy, relB, saysB]
      have e5 : ofT 5 x y = if 0 < x.ord y then 1 else 0 := by simp [ofT, hx, hy, relB, saysB]
      rw [e3, e1, e5]
      rcases (show x.ord y < 0 ∨ x.ord y = 0 ∨ 0 < x.ord y by omega) with h | h | h
      · left; rw [if_pos h, if_neg (by omega), if_neg (by omega)]; simp
      · right; left; rw [h]; simp
      · right; right; rw [if_neg (by omega), if_neg (by omega), if_pos h]; simp

set_option maxRecDepth 100000 in
set_option maxHeartbeats 6400000 in
theorem opposites_walk (ak an : Int) (sa : ByteArray) (bk bn : Int) (sb : ByteArray) (w : World) (ga gb : Bool) (F : Int → Int) (x3 x1 x5 : Int)
    (HA : Hid (∀ w, Calls Try.prog 17 #[.agg #[.int .i64 ak, .int .i64 an, .string sa]] w fun e w' => e = .returned (.bool ga) ∧ Below w.heap.size w w'))
    (HB : Hid (∀ w, Calls Try.prog 17 #[.agg #[.int .i64 bk, .int .i64 bn, .string sb]] w fun e w' => e = .returned (.bool gb) ∧ Below w.heap.size w w'))
    (HO : Hid (∀ r, 1 ≤ r → r ≤ 6 → ∀ w, Calls Try.prog 20 #[.int .i64 r] w fun e w' => e = .returned (.tuple #[.int .i64 (oppT r), .int .i64 0]) ∧ Below w.heap.size w w'))
    (HT : Hid (∀ r, 1 ≤ r → r ≤ 6 → ∀ w, Calls Try.prog 21 #[.int .i64 r] w fun e w' => e = .returned (.tuple #[.int .i64 (turnT r), .int .i64 0]) ∧ Below w.heap.size w w'))
    (H1 : Hid (∀ r, 1 ≤ r → r ≤ 6 → ∀ w, Calls Try.prog 18 #[.int .i64 r, .agg #[.int .i64 ak, .int .i64 an, .string sa], .agg #[.int .i64 bk, .int .i64 bn, .string sb]] w fun e w' => e = .returned (.tuple #[.int .i64 (F r), .int .i64 0]) ∧ Below w.heap.size w w'))
    (H2 : Hid (∀ r, 1 ≤ r → r ≤ 6 → ∀ w, Calls Try.prog 18 #[.int .i64 (oppT r), .agg #[.int .i64 ak, .int .i64 an, .string sa], .agg #[.int .i64 bk, .int .i64 bn, .string sb]] w fun e w' => e = .returned (.tuple #[.int .i64 (notT (F r)), .int .i64 0]) ∧ Below w.heap.size w w'))
    (H3 : Hid (∀ r, 1 ≤ r → r ≤ 6 → ∀ w, Calls Try.prog 18 #[.int .i64 (turnT r), .agg #[.int .i64 bk, .int .i64 bn, .string sb], .agg #[.int .i64 ak, .int .i64 an, .string sa]] w fun e w' => e = .returned (.tuple #[.int .i64 (F r), .int .i64 0]) ∧ Below w.heap.size w w'))
    (HN : Hid (∀ r, 1 ≤ r → r ≤ 6 → ∀ w, Calls Try.prog 11 #[.int .i64 (F r)] w fun e w' => e = .returned (.int .i64 (notT (F r))) ∧ w = w'))
    (HU : Hid (∀ r, 1 ≤ r → r ≤ 6 → (F r == 2) = ((ak == 0) || (bk == 0))))
    (E3 : Hid (F 3 = x3)) (E1 : Hid (F 1 = x1)) (E5 : Hid (F 5 = x5))
    (HX : (x3 = 2 ∧ x1 = 2 ∧ x5 = 2 ∧ (ak = 0 ∨ bk = 0)) ∨ (x3 = 1 ∧ x1 = 0 ∧ x5 = 0) ∨ (x3 = 0 ∧ x1 = 1 ∧ x5 = 0) ∨ (x3 = 0 ∧ x1 = 0 ∧ x5 = 1)) :
    Calls Try.prog 7 #[.agg #[.int .i64 ak, .int .i64 an, .string sa], .agg #[.int .i64 bk, .int .i64 bn, .string sb]] w fun e w' => e = .returned (.bool true) ∧ Below w.heap.size w w' := by
  have HXX := Lib.hid HX
  clear HX
  go_enter Try.func7, Try.ntmps7
  go_wp2_with fail
  have K := start6 w (.int .i64 ak) (.int .i64 an) (.string sa) (.int .i64 bk) (.int .i64 bn) (.string sb) 36
  refine (awake_any _).mono ?_
  rintro e w1 ⟨rfl, hb⟩
  replace K := keep6 K hb
  clear hb
  go_wp2_with fail
  refine (HA.out _).mono ?_
  rintro e w2 ⟨rfl, hb⟩
  replace K := keep6 K hb
  clear hb
  cases ga
  · go_wp2_with fail
    refine (awake_any _).mono ?_
    rintro e w3 ⟨rfl, hb⟩
    replace K := keep6 K hb
    clear hb
    go_wp2_with fail
    go_ret
    exact ⟨rfl, K.1.1⟩
  go_wp2_with fail
  refine (HB.out _).mono ?_
  rintro e w3 ⟨rfl, hb⟩
  replace K := keep6 K hb
  clear hb
  cases gb
  · go_wp2_with fail
    refine (awake_any _).mono ?_
    rintro e w4 ⟨rfl, hb⟩
    replace K := keep6 K hb
    clear hb
    go_wp2_with fail
    go_ret
    exact ⟨rfl, K.1.1⟩
  go_wp2_with fail
  go_loopw [5] (fun i wr => ∃ r : Int, 1 ≤ r ∧ r ≤ 7 ∧ i = .int .i64 r ∧ (Ran w 2 wr ∧ wr.cell? ⟨w.heap.size, 0, none⟩ = some (.int .i64 ak) ∧ wr.cell? ⟨w.heap.size, 1, none⟩ = some (.int .i64 an) ∧ wr.cell? ⟨w.heap.size, 2, none⟩ = some (.string sa) ∧ wr.cell? ⟨w.heap.size + 1, 0, none⟩ = some (.int .i64 bk) ∧ wr.cell? ⟨w.heap.size + 1, 1, none⟩ = some (.int .i64 bn) ∧ wr.cell? ⟨w.heap.size + 1, 2, none⟩ = some (.string sb))) (fun i _ => 7 - (intOf i).toNat)
  case atStart => exact ⟨1, by omega, by omega, rfl, K⟩
  case round =>
    clear K
    obtain ⟨r, h1, h7, rfl, K⟩ := hrel
    by_cases h6 : r ≤ 6
    · go_wp2_with fail
      refine (HO.out r h1 h6 _).mono ?_
      rintro e w4 ⟨rfl, hb⟩
      replace K := keep6 K hb
      clear hb
      go_wp2_with fail
      refine (HT.out r h1 h6 _).mono ?_
      rintro e w5 ⟨rfl, hb⟩
      replace K := keep6 K hb
      clear hb
      go_wp2_with fail
      refine (H1.out r h1 h6 _).mono ?_
      rintro e w6 ⟨rfl, hb⟩
      replace K := keep6 K hb
      clear hb
      go_wp2_with fail
      refine (H2.out r h1 h6 _).mono ?_
      rintro e w7 ⟨rfl, hb⟩
      replace K := keep6 K hb
      clear hb
      go_wp2_with fail
      refine (H3.out r h1 h6 _).mono ?_
      rintro e w8 ⟨rfl, hb⟩
      replace K := keep6 K hb
      clear hb
      go_wp2_with fail
      refine (HN.out r h1 h6 _).mono ?_
      rintro e w9 ⟨rfl, rfl⟩
      have hu := HU.out r h1 h6
      by_cases hak : ak = 0
      · have hu' : (F r == 2) = true := by rw [hu]; simp [hak]
        have e1 : (ak == 0) = true := by simp [hak]
        clear hu hak
        go_wp2_with fail
        go_roundw
        case rel => exact ⟨r + 1, by omega, by omega, by go_num, K⟩
        case measure => simp [intOf]; omega
      · have e1 : (ak == 0) = false := by simp [hak]
        by_cases hbk : bk = 0
        · have hu' : (F r == 2) = true := by rw [hu]; simp [hbk]
          have e2 : (bk == 0) = true := by simp [hbk]
          clear hu hbk
          go_wp2_with fail
          go_roundw
          case rel => exact ⟨r + 1, by omega, by omega, by go_num, K⟩
          case measure => simp [intOf]; omega
        · have hu' : (F r == 2) = false := by rw [hu]; simp [hak, hbk]
          have e2 : (bk == 0) = false := by simp [hbk]
          clear hu
          go_wp2_with fail
          go_roundw
          case rel => exact ⟨r + 1, by omega, by omega, by go_num, K⟩
          case measure => simp [intOf]; omega
    · obtain rfl : r = 7 := by omega
      have G3 : Hid (∀ w, Calls Try.prog 18 #[.int .i64 3, .agg #[.int .i64 ak, .int .i64 an, .string sa], .agg #[.int .i64 bk, .int .i64 bn, .string sb]] w fun e w' => e = .returned (.tuple #[.int .i64 x3, .int .i64 0]) ∧ Below w.heap.size w w') := Lib.hid fun w => by have := H1.out 3 (by omega) (by omega) w; rw [E3.out] at this; exact this
      have G1 : Hid (∀ w, Calls Try.prog 18 #[.int .i64 1, .agg #[.int .i64 ak, .int .i64 an, .string sa], .agg #[.int .i64 bk, .int .i64 bn, .string sb]] w fun e w' => e = .returned (.tuple #[.int .i64 x1, .int .i64 0]) ∧ Below w.heap.size w w') := Lib.hid fun w => by have := H1.out 1 (by omega) (by omega) w; rw [E1.out] at this; exact this
      have G5 : Hid (∀ w, Calls Try.prog 18 #[.int .i64 5, .agg #[.int .i64 ak, .int .i64 an, .string sa], .agg #[.int .i64 bk, .int .i64 bn, .string sb]] w fun e w' => e = .returned (.tuple #[.int .i64 x5, .int .i64 0]) ∧ Below w.heap.size w w') := Lib.hid fun w => by have := H1.out 5 (by omega) (by omega) w; rw [E5.out] at this; exact this
      have i0 : ∀ w, (Instr.index 49 (.agg #[.int .i64 3, .int .i64 1, .int .i64 5]) (.int .i64 0)).run Try.prog w = .ok (.int .i64 3) w := fun _ => by kernel_rfl
      have i1 : ∀ w, (Instr.index 49 (.agg #[.int .i64 3, .int .i64 1, .int .i64 5]) (.int .i64 1)).run Try.prog w = .ok (.int .i64 1) w := fun _ => by kernel_rfl
      have i2 : ∀ w, (Instr.index 49 (.agg #[.int .i64 3, .int .i64 1, .int .i64 5]) (.int .i64 2)).run Try.prog w = .ok (.int .i64 5) w := fun _ => by kernel_rfl
      clear HA HB HO HT H1 H2 H3 HN HU E3 E1 E5
      rcases HXX.out with ⟨rfl, rfl, rfl, hnull⟩ | ⟨rfl, rfl, rfl⟩ | ⟨rfl, rfl, rfl⟩ | ⟨rfl, rfl, rfl⟩
      all_goals clear HXX
      · go_wp2_with fail
        go_loopw [16, 112] (fun n i wr => ∃ k : Nat, k ≤ 3 ∧ i = .int .i64 k ∧ n = .int .i64 (if k = 0 then 0 else if k = 1 then 0 else if k = 2 then 0 else 0) ∧ (Ran w 2 wr ∧ wr.cell? ⟨w.heap.size, 0, none⟩ = some (.int .i64 ak) ∧ wr.cell? ⟨w.heap.size, 1, none⟩ = some (.int .i64 an) ∧ wr.cell? ⟨w.heap.size, 2, none⟩ = some (.string sa) ∧ wr.cell? ⟨w.heap.size + 1, 0, none⟩ = some (.int .i64 bk) ∧ wr.cell? ⟨w.heap.size + 1, 1, none⟩ = some (.int .i64 bn) ∧ wr.cell? ⟨w.heap.size + 1, 2, none⟩ = some (.string sb))) (fun _ i _ => 3 - (intOf i).toNat)
        case atStart => exact ⟨0, by omega, rfl, by simp, K⟩
        case round =>
          clear K
          obtain ⟨k, hk, rfl, rfl, K⟩ := hrel
          obtain rfl | rfl | rfl | rfl : k = 0 ∨ k = 1 ∨ k = 2 ∨ k = 3 := by omega
          · go_wp2_with fail
            refine (G3.out _).mono ?_
            rintro e w4 ⟨rfl, hb⟩
            replace K := keep6 K hb
            clear hb
            go_wp2_with fail
            go_roundw
            case rel => exact ⟨1, by omega, by go_num, by simp, K⟩
            case measure => simp [intOf]
          · go_wp2_with fail
            refine (G1.out _).mono ?_
            rintro e w4 ⟨rfl, hb⟩
            replace K := keep6 K hb
            clear hb
            go_wp2_with fail
            go_roundw
            case rel => exact ⟨2, by omega, by go_num, by simp, K⟩
            case measure => simp [intOf]
          · go_wp2_with fail
            refine (G5.out _).mono ?_
            rintro e w4 ⟨rfl, hb⟩
            replace K := keep6 K hb
            clear hb
            go_wp2_with fail
            go_roundw
            case rel => exact ⟨3, by omega, by go_num, by simp, K⟩
            case measure => simp [intOf]
          · rcases hnull with rfl | rfl
            · go_wp2_with fail
              go_ret
              exact ⟨ret_bool (by simp), K.1.1⟩
            · by_cases hak : ak = 0
              · have e1 : (ak == 0) = true := by simp [hak]
                go_wp2_with fail
                go_ret
                exact ⟨ret_bool (by simp), K.1.1⟩
              · have e1 : (ak == 0) = false := by simp [hak]
                go_wp2_with fail
                go_ret
                exact ⟨ret_bool (by simp), K.1.1⟩
      · go_wp2_with fail
        go_loopw [16, 112] (fun n i wr => ∃ k : Nat, k ≤ 3 ∧ i = .int .i64 k ∧ n = .int .i64 (if k = 0 then 0 else if k = 1 then 1 else if k = 2 then 1 else 1) ∧ (Ran w 2 wr ∧ wr.cell? ⟨w.heap.size, 0, none⟩ = some (.int .i64 ak) ∧ wr.cell? ⟨w.heap.size, 1, none⟩ = some (.int .i64 an) ∧ wr.cell? ⟨w.heap.size, 2, none⟩ = some (.string sa) ∧ wr.cell? ⟨w.heap.size + 1, 0, none⟩ = some (.int .i64 bk) ∧ wr.cell? ⟨w.heap.size + 1, 1, none⟩ = some (.int .i64 bn) ∧ wr.cell? ⟨w.heap.size + 1, 2, none⟩ = some (.string sb))) (fun _ i _ => 3 - (intOf i).toNat)
        case atStart => exact ⟨0, by omega, rfl, by simp, K⟩
        case round =>
          clear K
          obtain ⟨k, hk, rfl, rfl, K⟩ := hrel
          obtain rfl | rfl | rfl | rfl : k = 0 ∨ k = 1 ∨ k = 2 ∨ k = 3 := by omega
          · go_wp2_with fail
            refine (G3.out _).mono ?_
            rintro e w4 ⟨rfl, hb⟩
            replace K := keep6 K hb
            clear hb
            go_wp2_with fail
            go_roundw
            case rel => exact ⟨1, by omega, by go_num, by simp, K⟩
            case measure => simp [intOf]
          · go_wp2_with fail
            refine (G1.out _).mono ?_
            rintro e w4 ⟨rfl, hb⟩
            replace K := keep6 K hb
            clear hb
            go_wp2_with fail
            go_roundw
            case rel => exact ⟨2, by omega, by go_num, by simp, K⟩
            case measure => simp [intOf]
          · go_wp2_with fail
            refine (G5.out _).mono ?_
            rintro e w4 ⟨rfl, hb⟩
            replace K := keep6 K hb
            clear hb
            go_wp2_with fail
            go_roundw
            case rel => exact ⟨3, by omega, by go_num, by simp, K⟩
            case measure => simp [intOf]
          · go_wp2_with fail
            go_ret
            exact ⟨ret_bool (by simp), K.1.1⟩
      · go_wp2_with fail
        go_loopw [16, 112] (fun n i wr => ∃ k : Nat, k ≤ 3 ∧ i = .int .i64 k ∧ n = .int .i64 (if k = 0 then 0 else if k = 1 then 0 else if k = 2 then 1 else 1) ∧ (Ran w 2 wr ∧ wr.cell? ⟨w.heap.size, 0, none⟩ = some (.int .i64 ak) ∧ wr.cell? ⟨w.heap.size, 1, none⟩ = some (.int .i64 an) ∧ wr.cell? ⟨w.heap.size, 2, none⟩ = some (.string sa) ∧ wr.cell? ⟨w.heap.size + 1, 0, none⟩ = some (.int .i64 bk) ∧ wr.cell? ⟨w.heap.size + 1, 1, none⟩ = some (.int .i64 bn) ∧ wr.cell? ⟨w.heap.size + 1, 2, none⟩ = some (.string sb))) (fun _ i _ => 3 - (intOf i).toNat)
        case atStart => exact ⟨0, by omega, rfl, by simp, K⟩
        case round =>
          clear K
          obtain ⟨k, hk, rfl, rfl, K⟩ := hrel
          obtain rfl | rfl | rfl | rfl : k = 0 ∨ k = 1 ∨ k = 2 ∨ k = 3 := by omega
          · go_wp2_with fail
            refine (G3.out _).mono ?_
            rintro e w4 ⟨rfl, hb⟩
            replace K := keep6 K hb
            clear hb
            go_wp2_with fail
            go_roundw
            case rel => exact ⟨1, by omega, by go_num, by simp, K⟩
            case measure => simp [intOf]
          · go_wp2_with fail
            refine (G1.out _).mono ?_
            rintro e w4 ⟨rfl, hb⟩
            replace K := keep6 K hb
            clear hb
            go_wp2_with fail
            go_roundw
            case rel => exact ⟨2, by omega, by go_num, by simp, K⟩
            case measure => simp [intOf]
          · go_wp2_with fail
            refine (G5.out _).mono ?_
            rintro e w4 ⟨rfl, hb⟩
            replace K := keep6 K hb
            clear hb
            go_wp2_with fail
            go_roundw
            case rel => exact ⟨3, by omega, by go_num, by simp, K⟩
            case measure => simp [intOf]
          · go_wp2_with fail
            go_ret
            exact ⟨ret_bool (by simp), K.1.1⟩
      · go_wp2_with fail
        go_loopw [16, 112] (fun n i wr => ∃ k : Nat, k ≤ 3 ∧ i = .int .i64 k ∧ n = .int .i64 (if k = 0 then 0 else if k = 1 then 0 else if k = 2 then 0 else 1) ∧ (Ran w 2 wr ∧ wr.cell? ⟨w.heap.size, 0, none⟩ = some (.int .i64 ak) ∧ wr.cell? ⟨w.heap.size, 1, none⟩ = some (.int .i64 an) ∧ wr.cell? ⟨w.heap.size, 2, none⟩ = some (.string sa) ∧ wr.cell? ⟨w.heap.size + 1, 0, none⟩ = some (.int .i64 bk) ∧ wr.cell? ⟨w.heap.size + 1, 1, none⟩ = some (.int .i64 bn) ∧ wr.cell? ⟨w.heap.size + 1, 2, none⟩ = some (.string sb))) (fun _ i _ => 3 - (intOf i).toNat)
        case atStart => exact ⟨0, by omega, rfl, by simp, K⟩
        case round =>
          clear K
          obtain ⟨k, hk, rfl, rfl, K⟩ := hrel
          obtain rfl | rfl | rfl | rfl : k = 0 ∨ k = 1 ∨ k = 2 ∨ k = 3 := by omega
          · go_wp2_with fail
            refine (G3.out _).mono ?_
            rintro e w4 ⟨rfl, hb⟩
            replace K := keep6 K hb
            clear hb
            go_wp2_with fail
            go_roundw
            case rel => exact ⟨1, by omega, by go_num, by simp, K⟩
            case measure => simp [intOf]
          · go_wp2_with fail
            refine (G1.out _).mono ?_
            rintro e w4 ⟨rfl, hb⟩
            replace K := keep6 K hb
            clear hb
            go_wp2_with fail
            go_roundw
            case rel => exact ⟨2, by omega, by go_num, by simp, K⟩
            case measure => simp [intOf]
          · go_wp2_with fail
            refine (G5.out _).mono ?_
            rintro e w4 ⟨rfl, hb⟩
            replace K := keep6 K hb
            clear hb
            go_wp2_with fail
            go_roundw
            case rel => exact ⟨3, by omega, by go_num, by simp, K⟩
            case measure => simp [intOf]
          · go_wp2_with fail
            go_ret
            exact ⟨ret_bool (by simp), K.1.1⟩

theorem LogicOpposites_any (ak an : Int) (sa : ByteArray) (bk bn : Int) (sb : ByteArray) (w : World) :
    Calls Try.prog 7 #[.agg #[.int .i64 ak, .int .i64 an, .string sa], .agg #[.int .i64 bk, .int .i64 bn, .string sb]] w fun e w' => e = .returned (.bool true) ∧ Below w.heap.size w w' :=
  opposites_walk ak an sa bk bn sb w (goodB ak an sa) (goodB bk bn sb) (fun r => ofT r ⟨ak, an, sa⟩ ⟨bk, bn, sb⟩) _ _ _
    (Lib.hid (refGood_any ak an sa)) (Lib.hid (refGood_any bk bn sb))
    (Lib.hid fun r h1 h6 w => rel_ok h1 h6 ▸ opposite_any r w)
    (Lib.hid fun r h1 h6 w => rel_ok h1 h6 ▸ turned_any r w)
    (Lib.hid fun r h1 h6 w => rel_ok h1 h6 ▸ of_any r ⟨ak, an, sa⟩ ⟨bk, bn, sb⟩ w)
    (Lib.hid fun r h1 h6 w => by
      have := of_any (oppT r) ⟨ak, an, sa⟩ ⟨bk, bn, sb⟩ w
      rw [opp_not h1 h6, (show relE (oppT r) = 0 by rcases relB_cases (rel_b h1 h6) with rfl | rfl | rfl | rfl | rfl | rfl <;> decide)] at this
      exact this)
    (Lib.hid fun r h1 h6 w => by
      have := of_any (turnT r) ⟨bk, bn, sb⟩ ⟨ak, an, sa⟩ w
      rw [turn_same h1 h6, (show relE (turnT r) = 0 by rcases relB_cases (rel_b h1 h6) with rfl | rfl | rfl | rfl | rfl | rfl <;> decide)] at this
      exact this)
    (Lib.hid fun r _ _ w => not_any _ w)
    (Lib.hid fun r h1 h6 => of_unknown h1 h6 _ _)
    (Lib.hid rfl) (Lib.hid rfl) (Lib.hid rfl) (just_one _ _)
end Go.Proofs.Ytmgddieadehmeaa
