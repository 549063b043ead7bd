/- The law SchemaLimits walked. -/
import Derived.Test.YtampkmmfkdekaaaDoorSchLn
namespace Go.Proofs.YtampkmmfkdekaaaDoor
open Go.RowKit

theorem below_of_grown {w w' : World} (h : w.grownBy w' none) : Below w.heap.size w w' := ⟨h.os, h.tape, h.output, h.size, fun k hk => h.block k hk (by simp)⟩
set_option maxRecDepth 100000 in
set_option maxHeartbeats 12800000 in
theorem SchemaLimits_any (G : Nat) (tables columns keys : Int) (w : World) (hE : Errs G w) :
    Calls Tryd.prog 4 #[.int .i64 tables, .int .i64 columns, .int .i64 keys] w fun e w' => e = .returned (.bool true) ∧ Below w.heap.size w w' := by
  have HW := Lib.hid (fun W => awake6_any W)
  have HE := Lib.hid hE
  clear hE
  go_enter Tryd.func4, Tryd.ntmps4
  go_wp2_with fail
  refine (HW.out _).mono ?_
  rintro e w1 ⟨rfl, hg⟩
  have G1 := Lib.hid hg
  clear hg
  go_wp2_with fail
  obtain ⟨n, hn, hn9⟩ := low_mod tables 9 (by omega) (by omega)
  obtain ⟨m, hm, hm9⟩ := low_mod columns 11 (by omega) (by omega)
  obtain ⟨k, hk, hk9⟩ := low_mod keys 12 (by omega) (by omega)
  have hk1 : wrap64 ((k : Int) - 1) = (k : Int) - 1 := by unfold wrap64; omega
  rw [hn, hm, hk, hk1]
  clear hn hm hk hk1
  obtain ⟨K, hK⟩ : ∃ K : Int, K = (k : Int) - 1 := ⟨_, rfl⟩
  rw [← hK]
  have HK := Lib.hid hK
  clear hK
  obtain ⟨M, hM⟩ : ∃ M : Nat, M = max m 1 := ⟨_, rfl⟩
  have hM1 : (if (m : Int) < 1 then (1 : Int) else m) = (M : Int) := by split <;> omega
  have hM2 : M ≤ 10 := by omega
  have HM := Lib.hid hM
  clear hM
  go_loopw [10, 11, 12, 13] (fun s10 s11 s12 s13 wr => ∃ (pa : Option Addr) (pc i : Nat), s10 = .slice pa i pc ∧ s11 = .int .i64 i ∧ i ≤ n ∧ Hid (∃ ts, Tabs6 M i pc pa ts w1 wr)) (fun _ s11 _ _ _ => n - (intOf s11).toNat)
  case atStart => exact ⟨none, 0, 0, rfl, rfl, by omega, Lib.hid ⟨[], rfl, by simp, ⟨by simp, .inl ⟨rfl, rfl⟩⟩, by simp, grown_refl6 _ _⟩⟩
  case round =>
    obtain ⟨pa, pc, i, rfl, rfl, hi, I⟩ := hrel
    by_cases hlt : i < n
    · have i0 : (0 : Int) ≤ i := by omega
      have i9 : (i : Int) < 9 := by omega
      have v0 := conv_one (wr.alloc (.cells #[.int .u8 (97 + (i : Int))] 5)) wr.heap.size i (by omega) (cell_of_row _ _ 0 _ _ _ (heap_alloc_new wr _))
      generalize hwr : wr = wa at *
      clear hwr
      go_upto_region 10 with fail
      clear v0
      obtain ⟨X, hX⟩ : ∃ X, X = wa.heap.size + 1 := ⟨_, rfl⟩
      have B0 : Hid (Box6 X 0 0 none i wa ((wa.alloc (.cells #[.int .u8 (97 + (i : Int))] 5)).alloc (.cells #[.string (tName i), .slice none 0 0, .int .i64 1] 24))) := Lib.hid ⟨by
        rw [hX]
        have := heap_alloc_new (wa.alloc (.cells #[.int .u8 (97 + (i : Int))] 5)) (.cells #[.string (tName i), .slice none 0 0, .int .i64 1] 24)
        rwa [show (wa.alloc (.cells #[.int .u8 (97 + (i : Int))] 5)).heap.size = wa.heap.size + 1 by simp] at this, ⟨by simp [colsC, colsL], .inl ⟨rfl, rfl⟩⟩, (World.grownBy_alloc _ _ _).trans (World.grownBy_alloc _ _ _)⟩
      have hXs : ((wa.alloc (.cells #[.int .u8 (97 + (i : Int))] 5)).alloc (.cells #[.string (tName i), .slice none 0 0, .int .i64 1] 24)).heap.size = X + 1 := by rw [hX]; simp
      rw [← hX]
      have HX := Lib.hid hX
      clear hX
      rw [show ({ data := #[116] } ++ { data := #[letC i] } : ByteArray) = tName i from rfl]
      generalize (wa.alloc (.cells #[.int .u8 (97 + (i : Int))] 5)).alloc (.cells #[.string (tName i), .slice none 0 0, .int .i64 1] 24) = W at *
      go_wp2_with fail
      go_loopw [13] (fun s13 wv => ∃ (ca : Option Addr) (cc j : Nat), s13 = .int .i64 j ∧ j ≤ M ∧ Hid (Box6 X j cc ca i wa wv ∧ X < wv.heap.size)) (fun s13 _ => M - (intOf s13).toNat)
      case atStart => exact ⟨none, 0, 0, rfl, by omega, Lib.hid ⟨B0.out, by omega⟩⟩
      case round =>
        obtain ⟨ca, cc, j, rfl, hj, J⟩ := hrel
        obtain ⟨⟨hb, hown, hgr⟩, hXl⟩ := J.out
        by_cases hlt2 : j < M
        · have c1 : wr.cell? ⟨X, 1, none⟩ = some (.slice ca j cc) := cell_of_row wr X 1 _ _ _ hb
          have j0 : (0 : Int) ≤ j := by omega
          have j9 : (j : Int) < 10 := by omega
          have v0 := conv_one (wr.alloc (.cells #[.int .u8 (97 + (j : Int))] 5)) wr.heap.size j (by omega) (cell_of_row _ _ 0 _ _ _ (heap_alloc_new wr _))
          have HN : ((wr.alloc (.cells #[.int .u8 (97 + (j : Int))] 5)).alloc (.cells #[.string (cName j), .int .i64 2, .bool false] 39)).heap[wr.heap.size + 1]? = some (.cells #[.string (cName j), .int .i64 2, .bool false] 39 (0, 0)) := by
            have := heap_alloc_new (wr.alloc (.cells #[.int .u8 (97 + (j : Int))] 5)) (.cells #[.string (cName j), .int .i64 2, .bool false] 39)
            rwa [show (wr.alloc (.cells #[.int .u8 (97 + (j : Int))] 5)).heap.size = wr.heap.size + 1 by simp] at this
          have HO := Lib.hid (World.ownsRow.alloc (World.ownsRow.alloc hown (.cells #[.int .u8 (97 + (j : Int))] 5)) (.cells #[.string (cName j), .int .i64 2, .bool false] 39))
          have HN' := Lib.hid HN
          clear HN
          obtain ⟨i0', hi0', hz0, hz1, hz2⟩ := info_parts6 col_info6
          go_wp2_with (at_builtin; refine wpList_append_lies _ rfl _ _ 22 rfl (X + 1) 39 i0' (.agg #[.string ⟨#[]⟩, .int .i64 0, .bool false]) 3 32 Tryd.underlying22 hi0' hz0 hz1 hz2 rfl (by decide) (.slice ca j cc) j (colsC j) rfl HO.out ⟨wr.heap.size + 1, 0, none⟩ 1 1 [.string (cName j), .int .i64 2, .bool false] rfl rfl (news3 HN'.out) (by intro u hu; simp only [List.mem_cons, List.not_mem_nil, or_false] at hu; rcases hu with rfl | rfl | rfl <;> rfl) (by decide) (by unfold maxLen; omega) (by omega) (by simp; omega) _ rfl ?_)
          intro g1 cc1 w4 hown4 hgrow4 hat4 hlt4
          obtain ⟨e4, hB4⟩ := (show Box6 X j cc ca i wa wr from ⟨hb, hown, hgr⟩).next hXl (by have := HX.out; omega) ((World.grownBy_alloc _ _ none).trans (World.grownBy_alloc _ _ none)) hown4 hgrow4
          have c41 : w4.cell? ⟨X, 1, none⟩ = some (.slice ca j cc) := cell_of_row w4 X 1 _ _ _ e4
          have f41 : w4.frozen? ⟨X, 1, none⟩ = false := by simp [World.frozen?, e4]
          have J4 := Lib.hid (And.intro hB4 (show X < (w4.setCell ⟨X, 1, none⟩ (.slice (some ⟨g1, 0, none⟩) (j + 1) cc1)).heap.size by
            have h1 := hgrow4.size
            simp at h1
            simp [World.setCell]
            omega))
          clear hown4 hgrow4 hat4 hlt4 e4 hB4 hi0' hz0 hz1 hz2 v0 c1 hb hown hgr
          go_wp2_with fail
          go_roundw
          case rel => exact ⟨some ⟨g1, 0, none⟩, cc1, j + 1, by go_num, by omega, J4⟩
          case measure => simp [intOf]; omega
        · obtain rfl : M = j := by omega
          obtain ⟨ts, T⟩ := I.out
          have TT := Lib.hid ((T.keep hgr).keep (World.grownBy_alloc wr (.cells #[.string (tName i), .slice ca M cc, .int .i64 1] 24) none))
          have CC := Lib.hid (World.ownsRow.alloc hown (.cells #[.string (tName i), .slice ca M cc, .int .i64 1] 24))
          have hMc : M ≤ cc := by
            rcases hown.2 with ⟨hv, h0⟩ | ⟨g, cap, cur, hv, _, _, hc, _⟩
            · omega
            · cases hv; exact hc
          have hw1X : w1.heap.size ≤ X := by have := T.grown.size; have := HX.out; omega
          have hXw := Nat.le_trans hw1X (Nat.le_of_lt hXl)
          have c0 : wr.cell? ⟨X, 0, none⟩ = some (.string (tName i)) := cell_of_row wr X 0 _ _ _ hb
          have c1 : wr.cell? ⟨X, 1, none⟩ = some (.slice ca M cc) := cell_of_row wr X 1 _ _ _ hb
          have c2 : wr.cell? ⟨X, 2, none⟩ = some (.int .i64 1) := cell_of_row wr X 2 _ _ _ hb
          clear hb hown hgr T J I
          obtain ⟨i0', hi0', hz0, hz1, hz2⟩ := info_parts6 tab_info6
          go_wp2_with (at_builtin; refine wpList_append_lies _ rfl _ _ 41 rfl w1.heap.size 24 i0' (.agg #[.string ⟨#[]⟩, .slice none 0 0, .int .i64 0]) 3 48 Tryd.underlying41 hi0' hz0 hz1 hz2 rfl (by decide) (.slice pa i pc) i (ts.flatMap tbC) rfl TT.out.own3 ⟨wr.heap.size, 0, none⟩ 1 1 [.string (tName i), .slice ca M cc, .int .i64 1] rfl rfl (news3 (heap_alloc_new wr _)) (by intro u hu; simp only [List.mem_cons, List.not_mem_nil, or_false] at hu; rcases hu with rfl | rfl | rfl <;> rfl) (by decide) (by unfold maxLen; omega) (by omega) (by simp; omega) _ rfl ?_)
          intro g1 pc1 w4 hown4 hgrow4 hat4 hlt4
          have T4 := Lib.hid (TT.out.push CC.out hw1X hMc hown4 hgrow4)
          clear hown4 hgrow4 hat4 hlt4 hi0' hz0 hz1 hz2 c0 c1 c2
          go_wp2_with fail
          go_roundw
          case rel => exact ⟨some ⟨g1, 0, none⟩, pc1, i + 1, rfl, by go_num, by omega, Lib.hid ⟨_, T4.out⟩⟩
          case measure => simp [intOf]; omega
    · obtain rfl : n = i := by omega
      obtain ⟨ts, T⟩ := I.out
      have hMM := HM.out
      have hKK := HK.out
      have hE1 : Errs G wr := HE.out.grown (G1.out.trans T.grown)
      have hts := T.tabs (by omega) hM2
      have hcc := (own_cells3 T.own3).1
      have hky := T.keyed
      have TT := Lib.hid T
      have GW := Lib.hid (G1.out.trans T.grown)
      have n0 : (0 : Int) ≤ n := by omega
      by_cases hA : 0 < n ∧ 8 < m
      · obtain ⟨hA1, hA2⟩ := hA
        have S := Lib.hid (show Says6 pa n pc wr 0 3 from chk_wide hE1 hts hcc hky hA1 (by omega))
        have x1 : (0 : Int) < n := by omega
        have x2 : (8 : Int) < m := by omega
        clear hts hcc hky T hE1 hMM hKK I
        go_wp2_with fail
        refine S.out.mono ?_
        rintro e w2 ⟨rfl, hg2⟩
        have G2 := Lib.hid (GW.out.trans hg2)
        clear hg2
        go_wp2_with fail
        go_ret
        exact ⟨rfl, below_of_grown G2.out⟩
      by_cases hB : 6 < n
      · have S := Lib.hid (show Says6 pa n pc wr 6 3 from chk_many hE1 hts hcc hky hB (by omega) (by omega) (by omega))
        have x1 : (0 : Int) < n := by omega
        have x2 : ¬ (8 : Int) < m := by omega
        have x3 : (6 : Int) < n := by omega
        clear hts hcc hky T hE1 hMM hKK I hA
        go_wp2_with fail
        refine S.out.mono ?_
        rintro e w2 ⟨rfl, hg2⟩
        have G2 := Lib.hid (GW.out.trans hg2)
        clear hg2
        go_wp2_with fail
        go_ret
        exact ⟨rfl, below_of_grown G2.out⟩
      have S := Lib.hid (show Says6 pa n pc wr 0 0 from chk_ok hts hcc hky (by omega) (by omega))
      have x3 : ¬ (6 : Int) < n := by omega
      by_cases hC : n = 0
      · have x1 : ¬ (0 : Int) < n := by omega
        have x4 : ((n : Int) == 0) = true := by simp [hC]
        clear hts hcc hky T hE1 hMM hKK I hA hB hC
        go_wp2_with fail
        refine S.out.mono ?_
        rintro e w2 ⟨rfl, hg2⟩
        have G2 := Lib.hid (GW.out.trans hg2)
        clear hg2
        go_wp2_with fail
        go_ret
        exact ⟨rfl, below_of_grown G2.out⟩
      have x1 : (0 : Int) < n := by omega
      have x2 : ¬ (8 : Int) < m := by omega
      have x4 : ((n : Int) == 0) = false := beq_eq_false_iff_ne.2 (by omega)
      obtain ⟨q, hq⟩ : ∃ q, q + 1 = n := ⟨n - 1, by omega⟩
      have k5 : (n : Int) - 1 = q := by omega
      have k6 : (q : Int) < n := by omega
      have k7 : (0 : Int) ≤ q := by omega
      have hm8 : M ≤ 8 := by omega
      have hm1 : 1 ≤ M := by omega
      clear hts hky T hMM hKK I hA hB hC
      have HE1 := Lib.hid hE1
      clear hE1
      go_wp2_with fail
      refine S.out.mono ?_
      rintro e w2 ⟨rfl, hg2⟩
      have G2 := Lib.hid (GW.out.trans hg2)
      have T2 := Lib.hid (TT.out.keep hg2)
      clear hg2
      obtain ⟨g, ts', rfl, hgB, cq, fq, hky', hts'⟩ := Tabs6.store (q := q) (by rw [hq]; exact T2.out) (by omega) hM2 K
      rw [hq] at hky'
      have gs : w2.grownBy (w2.setCell ⟨g, q * 3 + 2, none⟩ (.int .i64 K)) (some g) := grown_set1 (grown_refl6 w2 (some g)) _ _
      have G3 := Lib.hid (grown_then6 G2.out gs (fun j e => by cases e; have := G1.out.size; omega))
      have hE3 : Errs G (w2.setCell ⟨g, q * 3 + 2, none⟩ (.int .i64 K)) := HE.out.grown G3.out
      by_cases hG : 1 ≤ K ∧ K ≤ M
      · obtain ⟨y1, y2⟩ := hG
        have S2 := Lib.hid (show Says6 (some ⟨g, 0, none⟩) n pc (w2.setCell ⟨g, q * 3 + 2, none⟩ (.int .i64 K)) 0 0 from chk_ok hts' hcc hky' (by omega) (.inr ⟨hm1, hm8, y1, y2⟩))
        clear hts' hky' gs hE3
        go_wp2_with fail
        refine S2.out.mono ?_
        rintro e w4 ⟨rfl, hg4⟩
        have G4 := Lib.hid (G3.out.trans hg4)
        clear hg4
        go_wp2_with fail
        go_ret
        exact ⟨rfl, below_of_grown G4.out⟩
      · have S2 := Lib.hid (show Says6 (some ⟨g, 0, none⟩) n pc (w2.setCell ⟨g, q * 3 + 2, none⟩ (.int .i64 K)) q 2 from by
          have h := chk_keys hE3 hts' hcc hky' (by omega) (by omega) hm1 hm8 (by omega)
          rw [← hq] at h
          rw [← hq]
          exact h)
        clear hts' hky' gs hE3
        by_cases hK1 : K < 1
        · have y1 : ¬ (1 : Int) ≤ K := by omega
          clear hG
          go_wp2_with fail
          refine S2.out.mono ?_
          rintro e w4 ⟨rfl, hg4⟩
          have G4 := Lib.hid (G3.out.trans hg4)
          clear hg4
          go_wp2_with fail
          go_ret
          exact ⟨rfl, below_of_grown G4.out⟩
        · have y1 : (1 : Int) ≤ K := by omega
          have y2 : ¬ K ≤ (M : Int) := by omega
          clear hG hK1
          go_wp2_with fail
          refine S2.out.mono ?_
          rintro e w4 ⟨rfl, hg4⟩
          have G4 := Lib.hid (G3.out.trans hg4)
          clear hg4
          go_wp2_with fail
          go_ret
          exact ⟨show Ending.returned (.bool (!decide (K ≤ (M : Int)))) = .returned (.bool true) from by rw [decide_eq_false (show ¬ K ≤ (M : Int) by omega)]; rfl, below_of_grown G4.out⟩
end Go.Proofs.YtampkmmfkdekaaaDoor
