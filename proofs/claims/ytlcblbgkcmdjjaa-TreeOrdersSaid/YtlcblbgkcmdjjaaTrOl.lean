/- The law TreeOrders walked. -/
import Derived.Test.YtlcblbgkcmdjjaaTrO
namespace Go.Proofs.Ytlcblbgkcmdjjaa
open Go.RowKit

def KsAt (w : World) (a : Ptr) (l : List Int) : Prop := l.length ≤ 9223372036854775807 ∧ (l = [] ∨ ∃ b off, a = some ⟨b, off, none⟩ ∧ b < w.heap.size ∧ ∀ i, i < l.length → w.cell? ⟨b, off + i, none⟩ = some (.int .i64 (l.getD i 0)))
theorem KsAt.at {w W : World} {a : Ptr} {l : List Int} (h : KsAt w a l) (hg : w.grownBy W none) {i : Nat} (hi : i < l.length) : ∃ b off, a = some ⟨b, off, none⟩ ∧ W.cell? ⟨b, off + i, none⟩ = some (.int .i64 (l.getD i 0)) := by
  rcases h.2 with h0 | ⟨b, off, e, _, hc⟩
  · rw [h0] at hi; simp at hi
  · exact ⟨b, off, e, hg.cell (hc i hi) (by simp)⟩
set_option maxHeartbeats 1600000 in
theorem rowF_any (n : Int) (w : World) : Calls Try.prog 19 #[.int .i64 n] w fun e w' => (∃ g, e = .returned (.slice (some ⟨g, 0, none⟩) 1 1) ∧ RowAt w' (some ⟨g, 0, none⟩) [viV n]) ∧ w.grownBy w' none := by
  have hr := row1_at (w.alloc (cI n)) 36 (w.heap.size + 1) (viV n) (by show (0 : Nat) ≤ maxLen; exact Nat.zero_le _) (by simp)
  have HR := Lib.hid hr
  clear hr
  go_enter Try.func19, Try.ntmps19
  go_wp2_with (go_at_call 20; refine (refInt_any _ _).mono ?_; rintro e w2 ⟨rfl, rfl⟩; unfold vi)
  go_ret
  exact ⟨⟨_, rfl, HR.out⟩, (World.grownBy_alloc _ _ none).trans (World.grownBy_alloc _ _ none)⟩
theorem put4_any (t : Tre) (p : Ptr) (g g' : Nat) (n : Int) (w : World) (ht : TrAt Any w t p) (hn : t.n ≤ 1000000000) (h : RowAt w (some ⟨g, 0, none⟩) [viV n]) (h' : RowAt w (some ⟨g', 0, none⟩) [viV n]) :
    Makes 21 #[.pointer p, .slice (some ⟨g, 0, none⟩) 1 1, .slice (some ⟨g', 0, none⟩) 1 1] w (fun W q => TrAt Any W (Tr.put rowsOrd [viV n] [viV n] t) q) :=
  Put_any Any t p _ _ 1 1 [viV n] [viV n] w (fun _ _ => trivial) ht h h' (by simp) (by simp) hn
theorem take_more {l : List Int} {j : Nat} (h : j < l.length) : l.take (j + 1) = l.take j ++ [l.getD j 0] := by
  rw [List.take_succ_eq_append_getElem h]; simp [List.getD, h]
theorem rev_at {l : List Int} {j : Nat} (h : j < l.length) : l.reverse.getD j 0 = l.getD (l.length - 1 - j) 0 := by
  simp [List.getD, h, show l.length - 1 - j < l.length by omega]
theorem getD_map {done : List Rw} {i : Nat} (h : i < done.length) : (done.map Rw.l).getD i [] = (done.getD i default).l := by simp [List.getD, h]
theorem num_at {w : World} {a : Ptr} {n : Int} (h : RowAt w a [viV n]) : ∃ b o, a = some ⟨b, o, none⟩ ∧ w.cell? ⟨b, o + 1, none⟩ = some (.int .i64 n) := by
  rcases h.2.2 with h0 | ⟨b, o, e, _, hc⟩
  · cases h0
  · refine ⟨b, o, e, ?_⟩
    have := (hc 0 (by simp)).2.1
    simpa [viV] using this
/-- The turn of an int. -/
def turnK (by' : Int) (n : Nat) : Nat := ((IntKind.u64.wrap by') % (n : Int)).toNat
theorem turnK_at (by' : Int) {n : Nat} (hn : 0 < n) (h2 : n ≤ 200) : turnK by' n < n ∧ wrap64 ((IntKind.u64.wrap by').tmod (n : Int)) = (turnK by' n : Int) := by
  have h0 : 0 ≤ IntKind.u64.wrap by' := by
    unfold IntKind.wrap
    simp [IntKind.signed, IntKind.bits]
    omega
  have e := Int.tmod_eq_emod_of_nonneg (b := (n : Int)) h0
  have hb := Int.emod_lt_of_pos (IntKind.u64.wrap by') (show (0 : Int) < (n : Int) by omega)
  have ha := Int.emod_nonneg (IntKind.u64.wrap by') (show (n : Int) ≠ 0 by omega)
  unfold turnK
  rw [e]
  generalize IntKind.u64.wrap by' % (n : Int) = m at *
  unfold wrap64
  omega
/-- The keys that are gone behind i rounds. -/
def goneK (ks : List Int) (by' : Int) (i : Nat) : List Int := (List.range i).map fun z => ks.getD ((z + turnK by' ks.length) % ks.length) 0
theorem gone_step (ks : List Int) (by' : Int) (i : Nat) : goneK ks by' (i + 1) = goneK ks by' i ++ [ks.getD ((i + turnK by' ks.length) % ks.length) 0] := by
  unfold goneK
  rw [List.range_succ, List.map_append]
  rfl
theorem gone_all {ks : List Int} {by' : Int} {a : Int} (ha : a ∈ ks) {i : Nat} (hi : i = ks.length) : a ∈ goneK ks by' i := by
  subst hi
  obtain ⟨x, hx, rfl⟩ := List.mem_iff_getElem.1 ha
  obtain ⟨j, hj, e⟩ := round_all (c := turnK by' ks.length) (by omega) hx
  unfold goneK
  rw [List.mem_map]
  exact ⟨j, List.mem_range.2 hj, by rw [e]; simp [List.getD, hx]⟩
set_option maxRecDepth 100000 in
set_option maxHeartbeats 12800000 in
theorem TreeOrders_any (a : Ptr) (cap : Nat) (ks : List Int) (by' : Int) (w : World) (h : KsAt w a ks) (hcap : ks.length ≤ cap) :
    Calls Try.prog 6 #[.slice a ks.length cap, .int .i64 by'] w fun e w' => e = .returned (.bool true) ∧ Below w.heap.size w w' := by
  have H := Lib.hid h
  have HA := Lib.hid (fun W => awake7_any W)
  have hlen := h.1
  obtain ⟨n, hn⟩ : ∃ n, n = ks.length := ⟨_, rfl⟩
  have Hn := Lib.hid hn
  rw [← hn] at hcap hlen ⊢
  clear h hn
  go_enter Try.func6, Try.ntmps6
  go_wp2_with fail
  refine (HA.out _).mono ?_
  rintro e w1 ⟨rfl, hg⟩
  have K1 := Lib.hid hg
  clear hg
  by_cases h200 : 200 < n
  · go_wp2_with fail
    refine (HA.out _).mono ?_
    rintro e w2 ⟨rfl, hg⟩
    have K2 := Lib.hid (K1.out.trans hg)
    clear hg
    go_wp2_with fail
    go_ret
    exact ⟨rfl, below_grownT K2.out⟩
  have hn200 : n ≤ 200 := by omega
  clear h200
  go_wp2_with fail
  go_loopw [6, 7, 26] (fun s6 s7 s26 wr => ∃ (p q : Ptr) (j : Nat), s6 = .pointer p ∧ s7 = .pointer q ∧ s26 = .int .i64 j ∧ j ≤ n ∧ Hid (∃ t u, TrAt Any wr t p ∧ TrAt Any wr u q ∧ KS (ks.take j) t ∧ KS (ks.reverse.take j) u ∧ w.grownBy wr none)) (fun _ _ s26 _ => n - (intOf s26).toNat)
  case atStart => exact ⟨none, none, 0, rfl, rfl, rfl, by omega, Lib.hid ⟨.nil, .nil, rfl, rfl, KS.nil, KS.nil, K1.out⟩⟩
  case round =>
    obtain ⟨p, q, j, rfl, rfl, rfl, hj, I⟩ := hrel
    by_cases hlt : j < n
    · obtain ⟨t, u, ht, hu, k1, k2, hg⟩ := I.out
      have hjk : j < ks.length := by rw [← Hn.out]; exact hlt
      obtain ⟨b, off, rfl, c0⟩ := H.out.at hg hjk
      obtain ⟨jj, hjj⟩ : ∃ jj : Nat, jj = n - 1 - j := ⟨_, rfl⟩
      have hjjn : jj < n := by omega
      obtain ⟨_, _, e, c1⟩ := H.out.at hg (i := jj) (by rw [← Hn.out]; exact hjjn)
      cases e
      have hr := rev_at hjk
      rw [← Hn.out, ← hjj] at hr
      have T1 := Lib.hid (k1.put (ks.getD j 0))
      have T2 := Lib.hid (k2.put (ks.getD jj 0))
      have E1 := Lib.hid (And.intro (take_more hjk) (take_more (l := ks.reverse) (j := j) (by simpa using hjk)))
      rw [hr] at E1
      obtain ⟨x, hx⟩ : ∃ x, x = ks.getD j 0 := ⟨_, rfl⟩
      obtain ⟨y, hy⟩ : ∃ y, y = ks.getD jj 0 := ⟨_, rfl⟩
      rw [← hx] at c0 T1 E1
      rw [← hy] at c1 T2 E1
      have htn : t.n ≤ 200 := by have := k1.few; rw [List.length_take] at this; omega
      have hun : u.n ≤ 200 := by have := k2.few; rw [List.length_take] at this; omega
      have P1 := Lib.hid (fun W g g' (hW : wr.grownBy W none) (h1 : RowAt W (some ⟨g, 0, none⟩) [viV x]) (h2 : RowAt W (some ⟨g', 0, none⟩) [viV x]) => Makes.calls (put4_any t p g g' x W (ht.keep (.of hW)) (by omega) h1 h2))
      have P2 := Lib.hid (fun W g g' (hW : wr.grownBy W none) (h1 : RowAt W (some ⟨g, 0, none⟩) [viV y]) (h2 : RowAt W (some ⟨g', 0, none⟩) [viV y]) => Makes.calls (put4_any u q g g' y W (hu.keep (.of hW)) (by omega) h1 h2))
      have RF := Lib.hid rowF_any
      have D := Lib.hid hg
      have F := Lib.hid (fun (W : World) (hW : wr.grownBy W none) => And.intro (hW.cell c0 (by simp)) (hW.cell c1 (by simp)))
      have C0 := Lib.hid (grown_reflT wr none)
      have w1' : IntKind.i64.wrap ((n : Int) - 1) = (n : Int) - 1 := by rw [IntKind.wrap_i64]; omega
      have w2' : IntKind.i64.wrap ((n : Int) - 1 - j) = (jj : Int) := by rw [IntKind.wrap_i64]; omega
      have i1 : (j : Int) ≤ cap := by omega
      have i2 : (jj : Int) < n := by omega
      have i3 : (0 : Int) ≤ (jj : Int) := Int.natCast_nonneg _
      have i4 : (jj : Int) ≤ cap := by omega
      clear ht hu k1 k2 hg I hr hx hy hjk htn hun hjj
      go_upto_region 8 with fail
      go_cut [6] (fun s6 wx => ∃ p', s6 = .pointer p' ∧ Hid (wr.grownBy wx none ∧ TrAt Any wx (Tr.put rowsOrd [viV x] [viV x] t) p'))
      case first =>
        go_region_held3 (fun w' => w'.cell? ⟨b, off + j, none⟩ = some (.int .i64 x)) (first | exact (F.out _ GP.out).1 | exact (F.out _ GB.out).1 | exact (F.out _ GA.out).1 | exact (F.out _ (grown_drewT C0.out)).1) (first
          | (go_at_call 19; (with_reducible refine (RF.out _ _).mono ?_); rintro e w3 ⟨⟨gB, rfl, hB⟩, hgB⟩; have GB := Lib.hid (GA.out.trans hgB); have RB := Lib.hid hB; have RA2 := Lib.hid (RA.out.keep (below_grownT hgB)); clear hB hgB)
          | (go_at_call 19; (with_reducible refine (RF.out _ _).mono ?_); rintro e w2 ⟨⟨gA, rfl, hA⟩, hgA⟩; have GA := Lib.hid ((grown_drewT C0.out).trans hgA); have RA := Lib.hid hA; clear hA hgA)
          | (go_at_call 21; (first | (with_reducible refine (P1.out _ gA gB GB.out RA2.out RB.out).mono ?_) | (with_reducible refine (P1.out _ gB gA GB.out RB.out RA2.out).mono ?_)); rintro e w4 ⟨⟨pz, rfl, hpz⟩, hg4⟩; have GP := Lib.hid (GB.out.trans hg4); have HPp := Lib.hid hpz; clear hpz hg4))
        all_goals
          go_wp2_with fail
          go_meet
          exact ⟨pz, rfl, Lib.hid ⟨GP.out, HPp.out⟩⟩
      case rest =>
      obtain ⟨p', rfl, G2⟩ := hcut
      obtain ⟨_, d1⟩ := F.out _ G2.out.1
      clear c0 c1 P1
      go_wp2_with fail
      refine (RF.out _ _).mono ?_
      rintro e w3 ⟨⟨gA, rfl, hA⟩, hgA⟩
      have GA := Lib.hid (G2.out.1.trans hgA)
      have GA' := Lib.hid hgA
      have RA := Lib.hid hA
      clear hA hgA
      go_wp2_with fail
      refine (RF.out _ _).mono ?_
      rintro e w4 ⟨⟨gB, rfl, hB⟩, hgB⟩
      have GB := Lib.hid (GA.out.trans hgB)
      have GB' := Lib.hid (GA'.out.trans hgB)
      have RB := Lib.hid hB
      have RA2 := Lib.hid (RA.out.keep (below_grownT hgB))
      clear hB hgB
      go_wp2_with fail
      refine (P2.out _ gA gB GB.out RA2.out RB.out).mono ?_
      rintro e w5 ⟨⟨q', rfl, hq'⟩, hg5⟩
      have DD := Lib.hid (And.intro hq' (And.intro (GB.out.trans hg5) (GB'.out.trans hg5)))
      clear hq' hg5
      go_wp2_with fail
      go_roundw
      case rel => exact ⟨p', q', j + 1, rfl, rfl, by go_num, by omega, Lib.hid ⟨_, _, G2.out.2.keep (.of DD.out.2.2), DD.out.1, by rw [E1.out.1]; exact T1.out, by rw [E1.out.2]; exact T2.out, D.out.trans DD.out.2.1⟩⟩
      case measure => simp [intOf]; omega
    · obtain rfl : j = n := by omega
      obtain ⟨t, u, ht, hu, k1, k2, hg⟩ := I.out
      rw [Hn.out, List.take_length] at k1
      rw [Hn.out, List.take_of_length_le (by simp)] at k2
      have hsame := k1.same k2 (fun a => by simp)
      have htn : t.n ≤ 200 := by have := k1.few; rw [← Hn.out] at this; omega
      have hun : u.n ≤ 200 := by have := k2.few; rw [List.length_reverse, ← Hn.out] at this; omega
      have HR1 := Lib.hid (rowsT_any Any t p wr ht k1.sort (by omega))
      have HR2 := Lib.hid (fun W (hW : wr.grownBy W none) => rowsT_any Any u q W (hu.keep (.of hW)) k2.sort (by omega))
      have HL1 := Lib.hid (fun W (hW : wr.grownBy W none) => len_any Any t p W (ht.keep (.of hW)))
      have HL2 := Lib.hid (fun W (hW : wr.grownBy W none) => len_any Any u q W (hu.keep (.of hW)))
      have HDf := Lib.hid (fun W (hW : wr.grownBy W none) => diff_same t u p q W (ht.keep (.of hW)) (hu.keep (.of hW)) k1.sort hsame (by omega))
      have hnn : t.n = u.n := by rw [Tr.n_toL, Tr.n_toL, hsame]
      rw [hnn] at HL1
      have D := Lib.hid (And.intro ht (And.intro k1 (And.intro hsame (And.intro hg htn))))
      clear ht hu k1 k2 hg I hsame htn hun hnn
      generalize u.n = un at *
      go_wp2_with fail
      refine HR1.out.mono ?_
      rintro e w2 ⟨⟨vo, done, rfl, h1, h2, h3⟩, hg2⟩
      have hlen2 := congrArg List.length h3
      rw [List.length_map, List.length_map, ← Tr.n_toL] at hlen2
      have hm200 : done.length ≤ 200 := by have := D.out.2.2.2.2; omega
      obtain ⟨ao, co, rfl, hco, hrs⟩ := own_rs h1 (by omega) h2
      obtain ⟨m, hm⟩ : ∃ m, m = done.length := ⟨_, rfl⟩
      have HM := Lib.hid hm
      have DR := Lib.hid (And.intro hrs (And.intro h3 hg2))
      have HR2' := Lib.hid (HR2.out w2 hg2)
      rw [← hm] at hco hm200 ⊢
      clear h1 h2 h3 hg2 hlen2 hrs hm HR1 HR2
      go_wp2_with fail
      refine HR2'.out.mono ?_
      rintro e w3 ⟨⟨vo2, done2, rfl, h1, h2, h3⟩, hg3⟩
      have hl2 : done2.length ≤ 1000000000 := by
        have := congrArg List.length h3
        rw [List.length_map, List.length_map, ← D.out.2.2.1, ← Tr.n_toL] at this
        have := D.out.2.2.2.2
        omega
      obtain ⟨ao2, co2, rfl, hco2, hrs2⟩ := own_rs h1 hl2 h2
      have HSR := Lib.hid (sameRows_any ao ao2 co co2 done done2 w3 (DR.out.1.keep hg3) hrs2 (by rw [← HM.out]; exact hco) hco2 (by rw [DR.out.2.1, h3, D.out.2.2.1]))
      have G3 := Lib.hid (DR.out.2.2.trans hg3)
      have G23 := Lib.hid hg3
      rw [← HM.out] at HSR
      clear h1 h2 h3 hg3 hl2 hrs2 hco2 HR2'
      generalize done2.length = m2 at *
      go_wp2_with fail
      refine HSR.out.mono ?_
      rintro e w4 ⟨rfl, hg4⟩
      have G4 := Lib.hid (G3.out.trans hg4)
      have G24 := Lib.hid (G23.out.trans hg4)
      clear hg4 HSR
      go_wp2_with fail
      refine (HL1.out _ G4.out).mono ?_
      rintro e w5 ⟨rfl, rfl⟩
      go_wp2_with fail
      refine (HL2.out _ G4.out).mono ?_
      rintro e w5 ⟨rfl, rfl⟩
      go_wp2_with fail
      refine (HDf.out _ G4.out).mono ?_
      rintro e w5 ⟨rfl, hg5⟩
      have G5 := Lib.hid (G4.out.trans hg5)
      have G25 := Lib.hid (G24.out.trans hg5)
      clear hg5 HL1 HL2 HDf G3 G23 G4 G24
      go_wp2_with fail
      go_loopw [11] (fun s11 wx => ∃ i : Nat, s11 = .int .i64 ((i : Int) + 1) ∧ (i + 1 ≤ m ∨ i = 0) ∧ Hid (w5.grownBy wx none)) (fun s11 _ => m + 1 - (intOf s11).toNat)
      case atStart => exact ⟨0, rfl, .inr rfl, Lib.hid (grown_reflT _ _)⟩
      case round =>
        obtain ⟨i, rfl, hi, GI⟩ := hrel
        by_cases hil : i + 1 < m
        · obtain ⟨x, y, ex, ey, hxy⟩ := rises D.out.2.1 (i := i) (j := i + 1) (by omega) (by rw [← DR.out.2.1, List.length_map, ← HM.out]; exact hil)
          rw [← DR.out.2.1, getD_map (by rw [← HM.out]; omega)] at ex
          rw [← DR.out.2.1, getD_map (by rw [← HM.out]; omega)] at ey
          have hrs := DR.out.1.keep (G25.out.trans GI.out)
          obtain ⟨⟨b, off, rfl, c0⟩, r0⟩ := hrs.at (i := i) (by rw [← HM.out]; omega)
          obtain ⟨⟨_, _, e, c1⟩, r1⟩ := hrs.at (i := i + 1) (by rw [← HM.out]; omega)
          cases e
          generalize done.getD i default = X at *
          generalize done.getD (i + 1) default = Y at *
          obtain ⟨xa, xc, xl⟩ := X
          obtain ⟨ya, yc, yl⟩ := Y
          simp only at ex ey
          subst ex ey
          obtain ⟨b1, o1, rfl, n1⟩ := num_at r0
          obtain ⟨b2, o2, rfl, n2⟩ := num_at r1
          simp only [Rw.v, List.length_cons, List.length_nil, Nat.zero_add] at c0 c1
          have u1 : IntKind.i64.wrap ((i : Int) + 1 - 1) = (i : Int) := by rw [IntKind.wrap_i64]; omega
          have u2 : wrap64 (i : Int) = (i : Int) := by unfold wrap64; omega
          have u3 : (i : Int) < m := by omega
          have u4 : (i : Int) + 1 < m := by omega
          have u5 : (0 : Int) ≤ (i : Int) := Int.natCast_nonneg _
          have u6 : (0 : Int) ≤ (i : Int) + 1 := by omega
          have u7 : ¬ y ≤ x := by omega
          have u8 : (i : Int) ≤ co := by omega
          have u9 : (i : Int) + 1 ≤ co := by omega
          clear hrs r0 r1
          go_wp2_with fail
          go_quiet (fail)
          go_wp2_with fail
          go_roundw
          case rel => exact ⟨i + 1, by go_num, by omega, Lib.hid (grown_drewNT GI.out _)⟩
          case measure => simp [intOf]; omega
        · have G6 := Lib.hid (G5.out.trans GI.out)
          have hil' : ¬ (i : Int) + 1 < m := by omega
          go_wp2_with fail
          clear hi hil hil'
          go_loopw [6, 105] (fun s6 s105 wx => ∃ (p : Ptr) (i : Nat), s6 = .pointer p ∧ s105 = .int .i64 i ∧ i ≤ j ∧ Hid (∃ t, TrAt Any wx t p ∧ LS ks (goneK ks by' i) t ∧ w.grownBy wx none)) (fun _ s105 _ => j - (intOf s105).toNat)
          case atStart => exact ⟨p, 0, rfl, rfl, by omega, Lib.hid ⟨t, D.out.1.keep (.of G6.out), D.out.2.1.ls, D.out.2.2.2.1.trans G6.out⟩⟩
          case round =>
            obtain ⟨p, i, rfl, rfl, hi, I⟩ := hrel
            by_cases hlt3 : i < j
            · obtain ⟨t, ht, hL, hg⟩ := I.out
              have hn0 : 0 < j := by omega
              have hik : i < ks.length := by rw [← Hn.out]; exact hlt3
              have hq0 := turnK_at by' (n := ks.length) (by omega) (by rw [← Hn.out]; omega)
              rw [← Hn.out] at hq0
              obtain ⟨hq1, hq2⟩ := hq0
              obtain ⟨q, hq⟩ : ∃ q, q = turnK by' j := ⟨_, rfl⟩
              rw [← hq] at hq1 hq2
              obtain ⟨z, hz⟩ : ∃ z, z = (i + q) % j := ⟨_, rfl⟩
              have hzj : z < j := by rw [hz]; exact Nat.mod_lt _ hn0
              obtain ⟨b, off, rfl, c0⟩ := H.out.at hg hik
              obtain ⟨_, _, e, c1⟩ := H.out.at hg (i := z) (by rw [← Hn.out]; exact hzj)
              cases e
              obtain ⟨y, hy⟩ : ∃ y, y = ks.getD z 0 := ⟨_, rfl⟩
              rw [← hy] at c1
              obtain ⟨x, hx⟩ : ∃ x, x = ks.getD i 0 := ⟨_, rfl⟩
              rw [← hx] at c0
              have hgs : goneK ks by' (i + 1) = goneK ks by' i ++ [y] := by rw [gone_step, hy, hz, hq, ← Hn.out]
              have hd := hL.del y
              rw [← hgs] at hd
              have hfew : t.n ≤ 200 := by have := hL.few; rw [← Hn.out] at this; omega
              have hfew2 : (Tr.del rowsOrd [viV y] t).n ≤ 200 := by have := hd.1.few; rw [← Hn.out] at this; omega
              have DL := Lib.hid (fun W g (hW : wr.grownBy W none) (h1 : RowAt W (some ⟨g, 0, none⟩) [viV y]) => Makes.calls (delete_any Any t [viV y] (some ⟨g, 0, none⟩) 1 p W (fun _ _ => trivial) (ht.keep (.of hW)) h1 hL.sort (by omega)))
              have GT := Lib.hid (fun W p' g (hp : TrAt Any W (Tr.del rowsOrd [viV y] t) p') (h1 : RowAt W (some ⟨g, 0, none⟩) [viV y]) => (Get_any Any _ p' (some ⟨g, 0, none⟩) 1 [viV y] W hp hd.1.sort (by omega) h1 (by simp)).mono (R' := fun e w' => e = .returned (.tuple #[.slice none 0 0, .bool false]) ∧ W.grownBy w' none) (fun e w' h => ⟨h.1.elim (fun ⟨_, _, _, _, _, h3⟩ => by rw [hd.2] at h3; cases h3) (fun h => h.1), h.2⟩))
              have RF := Lib.hid rowF_any
              have DD := Lib.hid (And.intro hd.1 hg)
              have i1 : (i : Int) < j := by omega
              have i2 : (z : Int) < j := by omega
              have i3 : (0 : Int) ≤ (i : Int) := Int.natCast_nonneg _
              have i4 : (0 : Int) ≤ (z : Int) := Int.natCast_nonneg _
              have i5 : (i : Int) ≤ cap := by omega
              have i6 : (z : Int) ≤ cap := by omega
              have i7 : (0 : Int) < (j : Int) := by omega
              have u0 : IntKind.u64.wrap (j : Int) = (j : Int) := by unfold IntKind.wrap; simp [IntKind.signed, IntKind.bits]; omega
              have u1 : IntKind.i64.wrap ((i : Int) + q) = (i : Int) + q := by rw [IntKind.wrap_i64]; omega
              have u2 : ((i : Int) + (q : Int)).tmod (j : Int) = (z : Int) := by rw [hz, Int.tmod_eq_emod_of_nonneg (by omega)]; push_cast; rfl
              clear ht hL hd hg I hy hx hz hq hgs hik hfew hfew2
              go_wp2_with fail
              refine (RF.out _ _).mono ?_
              rintro e w6 ⟨⟨gA, rfl, hA⟩, hgA⟩
              have GA := Lib.hid hgA
              have RA := Lib.hid hA
              clear hA hgA
              go_wp2_with fail
              refine (DL.out _ gA GA.out RA.out).mono ?_
              rintro e w7 ⟨⟨p', rfl, hp'⟩, hg7⟩
              have GB := Lib.hid (GA.out.trans hg7)
              have TB := Lib.hid hp'
              clear hp' hg7 DL RA GA
              go_wp2_with fail
              refine (RF.out _ _).mono ?_
              rintro e w8 ⟨⟨gC, rfl, hC⟩, hgC⟩
              have GC := Lib.hid (GB.out.trans hgC)
              have TC := Lib.hid (TB.out.keep (.of hgC))
              have RC := Lib.hid hC
              clear hC hgC TB GB
              go_wp2_with fail
              refine (GT.out _ p' gC TC.out RC.out).mono ?_
              rintro e w9 ⟨rfl, hg9⟩
              have G9 := Lib.hid (GC.out.trans hg9)
              have T9 := Lib.hid (TC.out.keep (.of hg9))
              clear hg9 GT TC RC GC
              go_wp2_with fail
              go_roundw
              case rel => exact ⟨p', i + 1, rfl, by go_num, by omega, Lib.hid ⟨_, T9.out, DD.out.1, DD.out.2.trans G9.out⟩⟩
              case measure => simp [intOf]; omega
            · obtain rfl : i = j := by omega
              obtain ⟨t, ht, hL, hg⟩ := I.out
              have ht0 : t = .nil := hL.none (fun a ha => gone_all ha (by rw [Hn.out]))
              subst ht0
              obtain rfl : p = none := ht
              have HL := Lib.hid (fun W => len_any Any .nil none W rfl)
              have HH := Lib.hid (fun W => height_any Any .nil none W rfl)
              have HR := Lib.hid (fun W => rowsT_any Any .nil none W rfl (by simp [Tr.toL, Tr.Sorted]) (by simp [Tr.n]))
              have G7 := Lib.hid hg
              clear I hL hg
              simp only [Tr.n, Tr.h] at HL HH
              go_wp2_with fail
              refine (HL.out _).mono ?_
              rintro e w8 ⟨rfl, rfl⟩
              go_wp2_with fail
              refine (HR.out _).mono ?_
              rintro e w9 ⟨⟨vo3, done3, rfl, h1, _, h3⟩, hg9⟩
              have hd3 : done3 = [] := by simpa [Tr.toL] using h3
              subst hd3
              obtain ⟨ao3, co3, rfl⟩ := own_slice h1
              have G9 := Lib.hid (G7.out.trans hg9)
              clear h1 h3 hg9
              simp only [List.length_nil]
              go_wp2_with fail
              refine (HH.out _).mono ?_
              rintro e w10 ⟨rfl, rfl⟩
              go_wp2_with fail
              go_ret
              exact ⟨rfl, below_grownT G9.out⟩
end Go.Proofs.Ytlcblbgkcmdjjaa
