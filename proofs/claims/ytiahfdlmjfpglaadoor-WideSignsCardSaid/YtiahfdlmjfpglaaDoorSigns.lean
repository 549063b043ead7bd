/- The law WideSigns walked: true at any two pairs of ints. -/
import Derived.Test.YtiahfdlmjfpglaaDoorPend
import Derived.Test.YtiahfdlmjfpglaaDoorSignsM
import Derived.Deep.DeepCutAuto
namespace Go.Proofs.YtiahfdlmjfpglaaDoor
open Go.RowKit

set_option maxRecDepth 100000 in
set_option maxHeartbeats 25600000 in
theorem signs_gen (x0 x1 y0 y1 ih jh ah kh mh bh dh eh c : Int) (il jl al kl ml bl dl el : Nat) (w : World)
    (HO1 : Hid (∀ w, Calls Tryd.prog 18 #[.int .i64 x0] w fun e w' => e = .returned (.agg #[.int .i64 ih, .int .u64 il]) ∧ Below w.heap.size w w'))
    (HO2 : Hid (∀ w, Calls Tryd.prog 18 #[.int .i64 x1] w fun e w' => e = .returned (.agg #[.int .i64 jh, .int .u64 jl]) ∧ Below w.heap.size w w'))
    (HA : Hid (∀ w, Calls Tryd.prog 11 #[.agg #[.int .i64 ih, .int .u64 il], .agg #[.int .i64 jh, .int .u64 jl]] w fun e w' => e = .returned (.agg #[.int .i64 ah, .int .u64 al]) ∧ Below w.heap.size w w'))
    (HO3 : Hid (∀ w, Calls Tryd.prog 18 #[.int .i64 y0] w fun e w' => e = .returned (.agg #[.int .i64 kh, .int .u64 kl]) ∧ Below w.heap.size w w'))
    (HO4 : Hid (∀ w, Calls Tryd.prog 18 #[.int .i64 y1] w fun e w' => e = .returned (.agg #[.int .i64 mh, .int .u64 ml]) ∧ Below w.heap.size w w'))
    (HB : Hid (∀ w, Calls Tryd.prog 11 #[.agg #[.int .i64 kh, .int .u64 kl], .agg #[.int .i64 mh, .int .u64 ml]] w fun e w' => e = .returned (.agg #[.int .i64 bh, .int .u64 bl]) ∧ Below w.heap.size w w'))
    (HD : Hid (∀ w, Calls Tryd.prog 13 #[.agg #[.int .i64 ah, .int .u64 al], .agg #[.int .i64 bh, .int .u64 bl]] w fun e w' => e = .returned (.agg #[.int .i64 dh, .int .u64 dl]) ∧ Below w.heap.size w w'))
    (HE : Hid (∀ w, Calls Tryd.prog 13 #[.agg #[.int .i64 bh, .int .u64 bl], .agg #[.int .i64 ah, .int .u64 al]] w fun e w' => e = .returned (.agg #[.int .i64 eh, .int .u64 el]) ∧ Below w.heap.size w w'))
    (HC : Hid (∀ w, Calls Tryd.prog 15 #[.agg #[.int .i64 ah, .int .u64 al], .agg #[.int .i64 bh, .int .u64 bl]] w fun e w' => e = .returned (.int .i64 c) ∧ Below w.heap.size w w'))
    (HZ : Hid (∀ w, Calls Tryd.prog 11 #[.agg #[.int .i64 dh, .int .u64 dl], .agg #[.int .i64 eh, .int .u64 el]] w fun e w' => e = .returned (.agg #[.int .i64 0, .int .u64 0]) ∧ Below w.heap.size w w'))
    (HC0 : Hid (∀ w, Calls Tryd.prog 15 #[.agg #[.int .i64 dh, .int .u64 dl], .agg #[.int .i64 0, .int .u64 0]] w fun e w' => e = .returned (.int .i64 c) ∧ Below w.heap.size w w'))
    (HCt : Hid (∀ w, Calls Tryd.prog 15 #[.agg #[.int .i64 bh, .int .u64 bl], .agg #[.int .i64 ah, .int .u64 al]] w fun e w' => e = .returned (.int .i64 (-c)) ∧ Below w.heap.size w w'))
    (hc0 : -1 ≤ c) (hc1 : c ≤ 1) (Heq : Hid ((c = 0) ↔ (ah = bh ∧ (al : Int) = (bl : Int))))
    (HW : Hid (∀ w, TabW w → Calls Tryd.prog 9 #[] w fun e w' => e = .returned (.bool true) ∧ Below w.heap.size w w')) (htab : TabW w) :
    Calls Tryd.prog 8 #[.agg #[.int .i64 x0, .int .i64 x1], .agg #[.int .i64 y0, .int .i64 y1]] w fun e w' => e = .returned (.bool true) ∧ Below w.heap.size w w' := by
  have HT := Lib.hid htab
  clear htab
  have K0 := Lib.hid (box4_new w (.int .i64 x0) (.int .i64 x1) (.int .i64 y0) (.int .i64 y1) 51)
  have B0 : Hid (Below w.heap.size w ((w.alloc (.cells #[.int .i64 x0, .int .i64 x1] 51)).alloc (.cells #[.int .i64 y0, .int .i64 y1] 51))) := Lib.hid (((Below.refl _ _).alloc (Nat.le_refl _) _).alloc (by simp) _)
  go_enter Tryd.func8, Tryd.ntmps8
  go_wp2_with fail
  refine (HW.out _ (HT.out.keep B0.out)).mono ?_
  rintro e w1 ⟨rfl, hb⟩
  have k1 := box4_keep K0.out hb
  have s1 : w.heap.size + 2 ≤ w1.heap.size := by have := hb.size; simp at this; omega
  have B1 := Lib.hid (B0.out.trans (hb.mono (by simp; omega)))
  have P1 : Pend (w.heap.size + 2) w1 [] := trivial
  clear hb
  go_upto_region 3 with fail
  go_cut [5, 6] (fun p q wx => ∃ b5 b6 : Nat, p = .pointer (some ⟨b5, 0, none⟩) ∧ q = .pointer (some ⟨b6, 0, none⟩) ∧ Hid (Filled w.heap.size w wx b5 b6 ah al bh bl))
  case first =>
    go_region_held3 (fun w' => w'.cell? ⟨w.heap.size, 0, none⟩ = some (.int .i64 x0) ∧ w'.cell? ⟨w.heap.size, 1, none⟩ = some (.int .i64 x1) ∧ w'.cell? ⟨w.heap.size + 1, 0, none⟩ = some (.int .i64 y0) ∧ w'.cell? ⟨w.heap.size + 1, 1, none⟩ = some (.int .i64 y1)) (first | (with_reducible assumption) | (with_reducible exact box4_drew k1) | ((try clear q5 q6); (try clear r5 r6); exact box4_low (B := w.heap.size + 2) c6 (by omega) (by omega) (by (repeat first | (with_reducible exact Below.refl _ _) | (with_reducible refine Below.setCell ?_ (by dsimp only; omega) _) | (with_reducible refine Below.alloc ?_ (by first | omega | (simp; omega)) _) | fail))) | ((try clear q5 q6); (try clear r5 r6); exact box4_low (B := w.heap.size + 2) c5 (by omega) (by omega) (by (repeat first | (with_reducible exact Below.refl _ _) | (with_reducible refine Below.setCell ?_ (by dsimp only; omega) _) | (with_reducible refine Below.alloc ?_ (by first | omega | (simp; omega)) _) | fail))) | ((try clear q5 q6); (try clear r5 r6); exact box4_low (B := w.heap.size + 2) c4 (by omega) (by omega) (by (repeat first | (with_reducible exact Below.refl _ _) | (with_reducible refine Below.setCell ?_ (by dsimp only; omega) _) | (with_reducible refine Below.alloc ?_ (by first | omega | (simp; omega)) _) | fail))) | ((try clear q5 q6); (try clear r5 r6); exact box4_low (B := w.heap.size + 2) c3 (by omega) (by omega) (by (repeat first | (with_reducible exact Below.refl _ _) | (with_reducible refine Below.setCell ?_ (by dsimp only; omega) _) | (with_reducible refine Below.alloc ?_ (by first | omega | (simp; omega)) _) | fail))) | ((try clear q5 q6); (try clear r5 r6); exact box4_low (B := w.heap.size + 2) c2 (by omega) (by omega) (by (repeat first | (with_reducible exact Below.refl _ _) | (with_reducible refine Below.setCell ?_ (by dsimp only; omega) _) | (with_reducible refine Below.alloc ?_ (by first | omega | (simp; omega)) _) | fail))) | ((try clear q5 q6); (try clear r5 r6); exact box4_low (B := w.heap.size + 2) c1 (by omega) (by omega) (by (repeat first | (with_reducible exact Below.refl _ _) | (with_reducible refine Below.setCell ?_ (by dsimp only; omega) _) | (with_reducible refine Below.alloc ?_ (by first | omega | (simp; omega)) _) | fail))) | (with_reducible exact box4_keep (by assumption) ((Below.refl _ _).alloc (Nat.le_refl _) _)) | fail)
      (first
        | (go_at_call_of 11 (Value.int .i64 kh); (with_reducible refine (HB.out _).mono ?_); rintro e v6 ⟨rfl, g6⟩; have c6 := box4_keep (by assumption) g6; have s7 := g6.size; (try simp only [World.size_alloc] at s7); (first | (have P7 := P6.keep2 (by omega) g6; have BB6 : Below w.heap.size w v6 := ((BB5.alloc (by omega) _).alloc (by simp <;> omega) _).trans (g6.mono (by simp <;> omega))) | (have P7 := P6.keep1 (by omega) g6; have BB6 : Below w.heap.size w v6 := (BB5.alloc (by omega) _).trans (g6.mono (by simp <;> omega))) | (have P7 : Pend (w.heap.size + 2) _ _ := (by with_reducible exact Pend.keep g6 P6); have BB6 : Below w.heap.size w v6 := BB5.trans (g6.mono (by omega)))); clear g6 P6 c5; (try (have q0 := P7.2.1.c0; have q1 := P7.2.1.c1; have q2 := P7.2.1.fr 0; have q3 := P7.2.1.fr 1; have q4 := P7.2.1.lt; have q5 := Nat.ne_of_lt q4; have q6 := Ne.symm q5; have q7 := P7.1)); (try (have r0 := P7.2.2.2.2.1.c0; have r1 := P7.2.2.2.2.1.c1; have r2 := P7.2.2.2.2.1.fr 0; have r3 := P7.2.2.2.2.1.fr 1; have r5 := Nat.ne_of_lt (P7.2.2.1 _ (List.mem_cons_self ..)); have r6 := Ne.symm r5; have r7 := P7.2.2.2.1)))
        | (go_at_call_of 18 (Value.int .i64 y1); (with_reducible refine (HO4.out _).mono ?_); rintro e v5 ⟨rfl, g5⟩; have c5 := box4_keep (by assumption) g5; have s6 := g5.size; (try simp only [World.size_alloc] at s6); (first | (have P6 := P5.keep2 (by omega) g5; have BB5 : Below w.heap.size w v5 := ((BB4.alloc (by omega) _).alloc (by simp <;> omega) _).trans (g5.mono (by simp <;> omega))) | (have P6 := P5.keep1 (by omega) g5; have BB5 : Below w.heap.size w v5 := (BB4.alloc (by omega) _).trans (g5.mono (by simp <;> omega))) | (have P6 : Pend (w.heap.size + 2) _ _ := (by with_reducible exact Pend.keep g5 P5); have BB5 : Below w.heap.size w v5 := BB4.trans (g5.mono (by omega)))); clear g5 P5 c4)
        | (go_at_call_of 18 (Value.int .i64 y0); (with_reducible refine (HO3.out _).mono ?_); rintro e v4 ⟨rfl, g4⟩; have c4 := box4_keep (by assumption) g4; have s5 := g4.size; (try simp only [World.size_alloc] at s5); (first | (have P5 := P4.keep2 (by omega) g4; have BB4 : Below w.heap.size w v4 := ((BB3.alloc (by omega) _).alloc (by simp <;> omega) _).trans (g4.mono (by simp <;> omega))) | (have P5 := P4.keep1 (by omega) g4; have BB4 : Below w.heap.size w v4 := (BB3.alloc (by omega) _).trans (g4.mono (by simp <;> omega))) | (have P5 : Pend (w.heap.size + 2) _ _ := (by with_reducible exact Pend.keep g4 P4); have BB4 : Below w.heap.size w v4 := BB3.trans (g4.mono (by omega)))); clear g4 P4 c3)
        | (go_at_call_of 11 (Value.int .i64 ih); (with_reducible refine (HA.out _).mono ?_); rintro e v3 ⟨rfl, g3⟩; have c3 := box4_keep (by assumption) g3; have s4 := g3.size; (try simp only [World.size_alloc] at s4); (first | (have P4 := P3.keep2 (by omega) g3; have BB3 : Below w.heap.size w v3 := ((BB2.alloc (by omega) _).alloc (by simp <;> omega) _).trans (g3.mono (by simp <;> omega))) | (have P4 := P3.keep1 (by omega) g3; have BB3 : Below w.heap.size w v3 := (BB2.alloc (by omega) _).trans (g3.mono (by simp <;> omega))) | (have P4 : Pend (w.heap.size + 2) _ _ := (by with_reducible exact Pend.keep g3 P3); have BB3 : Below w.heap.size w v3 := BB2.trans (g3.mono (by omega)))); clear g3 P3 c2)
        | (go_at_call_of 18 (Value.int .i64 x1); (with_reducible refine (HO2.out _).mono ?_); rintro e v2 ⟨rfl, g2⟩; have c2 := box4_keep (by assumption) g2; have s3 := g2.size; (try simp only [World.size_alloc] at s3); (first | (have P3 := P2.keep2 (by omega) g2; have BB2 : Below w.heap.size w v2 := ((BB1.alloc (by omega) _).alloc (by simp <;> omega) _).trans (g2.mono (by simp <;> omega))) | (have P3 := P2.keep1 (by omega) g2; have BB2 : Below w.heap.size w v2 := (BB1.alloc (by omega) _).trans (g2.mono (by simp <;> omega))) | (have P3 : Pend (w.heap.size + 2) _ _ := (by with_reducible exact Pend.keep g2 P2); have BB2 : Below w.heap.size w v2 := BB1.trans (g2.mono (by omega)))); clear g2 P2 c1)
        | (go_at_call_of 18 (Value.int .i64 x0); (with_reducible refine (HO1.out _).mono ?_); rintro e v1 ⟨rfl, g1⟩; have u1 := undrew g1; have c1 := box4_keep (by assumption) g1; have s2 := u1.size; (try simp only [World.size_alloc] at s2); (first | (have P2 := P1.keep2 (by omega) u1; have BB1 : Below w.heap.size w v1 := ((B1.out.alloc (by omega) _).alloc (by simp <;> omega) _).trans (u1.mono (by simp <;> omega))) | (have P2 := P1.keep1 (by omega) u1; have BB1 : Below w.heap.size w v1 := (B1.out.alloc (by omega) _).trans (u1.mono (by simp <;> omega))) | (have P2 : Pend (w.heap.size + 2) _ _ := (by with_reducible exact Pend.keep u1 P1); have BB1 : Below w.heap.size w v1 := B1.out.trans (u1.mono (by omega)))); clear g1 P1 u1))
    all_goals
      go_wp2_with fail
      go_meet
      refine ⟨_, _, rfl, rfl, Lib.hid ?_⟩
      try clear q5 q6
      try clear r5 r6
      first | (with_reducible exact fill0a P7 (by omega) BB6 _ _ _ _) | (with_reducible exact fill0b P7 (by omega) BB6 _ _ _ _) | (with_reducible exact fill1 P7 (by omega) BB6 _ _ _ _) | (with_reducible exact fill2 P7 (by omega) BB6 _ _ _ _) | (with_reducible exact fill3 (by omega) BB6 _ _ _ _) | (with_reducible exact fill4 (by omega) BB6 _ _ _ _)
  case rest =>
    obtain ⟨b5, b6, rfl, rfl, Hc⟩ := hcut
    rename World => wa
    clear k1 P1 s1
    have k1 : wa.cell? ⟨b5, 0, none⟩ = some (.int .i64 ah) ∧ wa.cell? ⟨b5, 1, none⟩ = some (.int .u64 al) ∧ wa.cell? ⟨b6, 0, none⟩ = some (.int .i64 bh) ∧ wa.cell? ⟨b6, 1, none⟩ = some (.int .u64 bl) := ⟨Hc.out.2.2.1.c0, Hc.out.2.2.1.c1, Hc.out.2.2.2.1.c0, Hc.out.2.2.2.1.c1⟩
    have z5 := Hc.out.2.2.1.lt
    have z6 := Hc.out.2.2.2.1.lt
    have B2 : Below wa.heap.size wa wa := Below.refl _ _
    have P1 : Pend wa.heap.size wa [] := trivial
    go_upto_region 4 with fail
    go_cut [5, 6, 7, 8] (fun p q r t wx => ∃ b7 b8 : Nat, p = .pointer (some ⟨b5, 0, none⟩) ∧ q = .pointer (some ⟨b6, 0, none⟩) ∧ r = .pointer (some ⟨b7, 0, none⟩) ∧ t = .pointer (some ⟨b8, 0, none⟩) ∧ Hid (Filled wa.heap.size wa wx b7 b8 dh dl eh el))
    case first =>
      go_region_held3 (fun w' => w'.cell? ⟨b5, 0, none⟩ = some (.int .i64 ah) ∧ w'.cell? ⟨b5, 1, none⟩ = some (.int .u64 al) ∧ w'.cell? ⟨b6, 0, none⟩ = some (.int .i64 bh) ∧ w'.cell? ⟨b6, 1, none⟩ = some (.int .u64 bl)) (first | (with_reducible assumption) | (with_reducible exact box4_drew k1) | ((try clear q5 q6); (try clear r5 r6); exact box4_low (B := wa.heap.size) c2 (by omega) (by omega) (by (repeat first | (with_reducible exact Below.refl _ _) | (with_reducible refine Below.setCell ?_ (by dsimp only; omega) _) | (with_reducible refine Below.alloc ?_ (by first | omega | (simp; omega)) _) | fail))) | ((try clear q5 q6); (try clear r5 r6); exact box4_low (B := wa.heap.size) c1 (by omega) (by omega) (by (repeat first | (with_reducible exact Below.refl _ _) | (with_reducible refine Below.setCell ?_ (by dsimp only; omega) _) | (with_reducible refine Below.alloc ?_ (by first | omega | (simp; omega)) _) | fail))) | (with_reducible exact box4_keep (by assumption) ((Below.refl _ _).alloc (Nat.le_refl _) _)) | fail)
        (first
          | (go_at_call 13; (with_reducible refine (HD.out _).mono ?_); rintro e v1 ⟨rfl, g1⟩; have u1 := undrew g1; have c1 := box4_keep (by assumption) g1; have s2 := u1.size; (try simp only [World.size_alloc] at s2); (first | (have P2 := P1.keep2 (by omega) u1; have BB1 : Below wa.heap.size wa v1 := ((B2.alloc (by omega) _).alloc (by simp <;> omega) _).trans (u1.mono (by simp <;> omega))) | (have P2 := P1.keep1 (by omega) u1; have BB1 : Below wa.heap.size wa v1 := (B2.alloc (by omega) _).trans (u1.mono (by simp <;> omega))) | (have P2 : Pend wa.heap.size _ _ := (by with_reducible exact Pend.keep u1 P1); have BB1 : Below wa.heap.size wa v1 := B2.trans (u1.mono (by omega)))); clear g1 P1 u1)
          | (go_at_call 13; (with_reducible refine (HE.out _).mono ?_); rintro e v2 ⟨rfl, g2⟩; have c2 := box4_keep (by assumption) g2; have s3 := g2.size; (try simp only [World.size_alloc] at s3); (first | (have P3 := P2.keep2 (by omega) g2; have BB2 : Below wa.heap.size wa v2 := ((BB1.alloc (by omega) _).alloc (by simp <;> omega) _).trans (g2.mono (by simp <;> omega))) | (have P3 := P2.keep1 (by omega) g2; have BB2 : Below wa.heap.size wa v2 := (BB1.alloc (by omega) _).trans (g2.mono (by simp <;> omega))) | (have P3 : Pend wa.heap.size _ _ := (by with_reducible exact Pend.keep g2 P2); have BB2 : Below wa.heap.size wa v2 := BB1.trans (g2.mono (by omega)))); clear g2 P2 c1; (try (have q0 := P3.2.1.c0; have q1 := P3.2.1.c1; have q2 := P3.2.1.fr 0; have q3 := P3.2.1.fr 1; have q4 := P3.2.1.lt; have q5 := Nat.ne_of_lt q4; have q6 := Ne.symm q5; have q7 := P3.1)); (try (have r0 := P3.2.2.2.2.1.c0; have r1 := P3.2.2.2.2.1.c1; have r2 := P3.2.2.2.2.1.fr 0; have r3 := P3.2.2.2.2.1.fr 1; have r5 := Nat.ne_of_lt (P3.2.2.1 _ (List.mem_cons_self ..)); have r6 := Ne.symm r5; have r7 := P3.2.2.2.1))))
      all_goals
        go_wp2_with fail
        go_meet
        refine ⟨_, _, rfl, rfl, rfl, rfl, Lib.hid ?_⟩
        try clear q5 q6
        try clear r5 r6
        first | (with_reducible exact fill0a P3 (by omega) BB2 _ _ _ _) | (with_reducible exact fill0b P3 (by omega) BB2 _ _ _ _) | (with_reducible exact fill1 P3 (by omega) BB2 _ _ _ _) | (with_reducible exact fill2 P3 (by omega) BB2 _ _ _ _) | (with_reducible exact fill3 (by omega) BB2 _ _ _ _) | (with_reducible exact fill4 (by omega) BB2 _ _ _ _)
    case rest =>
      obtain ⟨b7, b8, rfl, rfl, rfl, rfl, Hd⟩ := hcut
      clear k1 P1 z5 z6 B2
      have K := Lib.hid (show Sums4 wc b5 b6 b7 b8 ah al bh bl dh dl eh el from ⟨Hc.out.2.2.1.keep Hd.out.2.1, Hc.out.2.2.2.1.keep Hd.out.2.1, Hd.out.2.2.1, Hd.out.2.2.2.1⟩)
      have BE := Lib.hid (Hc.out.2.1.trans (Hd.out.2.1.mono Hc.out.2.1.size))
      have a0 := K.out.1.c0
      have a1 := K.out.1.c1
      have a2 := K.out.2.1.c0
      have a3 := K.out.2.1.c1
      go_wp2_with fail
      refine (HC.out _).mono ?_
      rintro e v1 ⟨rfl, g1⟩
      have K1 := Lib.hid (K.out.keep g1)
      have E1 := Lib.hid (BE.out.trans (g1.mono BE.out.size))
      clear g1 a0 a1 a2 a3
      have a4 := K1.out.2.2.1.c0
      have a5 := K1.out.2.2.1.c1
      have a6 := K1.out.2.2.2.c0
      have a7 := K1.out.2.2.2.c1
      go_wp2_with fail
      refine (HZ.out _).mono ?_
      rintro e v2 ⟨rfl, g2⟩
      have K2 := Lib.hid (K1.out.keep g2)
      have E2 := Lib.hid (E1.out.trans (g2.mono E1.out.size))
      clear g2 a4 a5 a6 a7
      have a4 := K2.out.2.2.1.c0
      have a5 := K2.out.2.2.1.c1
      go_wp2_with fail
      refine (HC0.out _).mono ?_
      rintro e v3 ⟨rfl, g3⟩
      have K3 := Lib.hid (K2.out.keep g3)
      have E3 := Lib.hid (E2.out.trans (g3.mono E2.out.size))
      clear g3 a4 a5
      have a0 := K3.out.1.c0
      have a1 := K3.out.1.c1
      have a2 := K3.out.2.1.c0
      have a3 := K3.out.2.1.c1
      go_wp2_with fail
      refine (HCt.out _).mono ?_
      rintro e v4 ⟨rfl, g4⟩
      have K4 := Lib.hid (K3.out.keep g4)
      have E4 := Lib.hid (E3.out.trans (g4.mono E3.out.size))
      clear g4 a0 a1 a2 a3
      have a0 := K4.out.1.c0
      have a1 := K4.out.1.c1
      have a2 := K4.out.2.1.c0
      have a3 := K4.out.2.1.c1
      have HE4 := Lib.hid E4.out
      clear K K1 K2 K3 K4 E1 E2 E3 E4
      by_cases hc : c = 0
      · obtain ⟨q1, q2⟩ := Heq.out.1 hc
        have q2 : al = bl := by omega
        subst hc q1 q2
        clear Heq
        go_wp2_with fail
        go_ret
        exact ⟨ret_bool (by simp), HE4.out⟩
      · have e1 : (c == 0) = false := by simpa using hc
        by_cases q1 : ah = bh
        · have q2 : ¬ al = bl := fun e => hc (Heq.out.2 ⟨q1, by rw [e]⟩)
          have q3 : ((al : Int) == (bl : Int)) = false := by simp; omega
          have q4 : ¬ (al : Int) = (bl : Int) := by omega
          subst q1
          clear Heq
          go_wp2_with fail
          go_ret
          exact ⟨ret_bool (by simp [*]), HE4.out⟩
        · have q3 : (ah == bh) = false := by simpa using q1
          clear Heq
          go_wp2_with fail
          go_ret
          exact ⟨ret_bool (by simp [*]), HE4.out⟩

theorem cmp_small (x y : Int) : -1 ≤ cmpI x y ∧ cmpI x y ≤ 1 := by
  unfold cmpI
  repeat' split
  all_goals omega
theorem WideSigns_any (x0 x1 y0 y1 : Int) (w : World) (hx0 : -9223372036854775808 ≤ x0 ∧ x0 ≤ 9223372036854775807) (hx1 : -9223372036854775808 ≤ x1 ∧ x1 ≤ 9223372036854775807) (hy0 : -9223372036854775808 ≤ y0 ∧ y0 ≤ 9223372036854775807) (hy1 : -9223372036854775808 ≤ y1 ∧ y1 ≤ 9223372036854775807) (htab : TabW w) :
    Calls Tryd.prog 8 #[.agg #[.int .i64 x0, .int .i64 x1], .agg #[.int .i64 y0, .int .i64 y1]] w fun e w' => e = .returned (.bool true) ∧ Below w.heap.size w w' := by
  obtain ⟨a, ha⟩ : ∃ a, a = BitVec.ofInt 128 x0 + BitVec.ofInt 128 x1 := ⟨_, rfl⟩
  obtain ⟨b, hb⟩ : ∃ b, b = BitVec.ofInt 128 y0 + BitVec.ofInt 128 y1 := ⟨_, rfl⟩
  have fa : farB a := ha ▸ far_two x0 x1 hx0 hx1
  have fb : farB b := hb ▸ far_two y0 y1 hy0 hy1
  have cs := cmp_small a.toInt b.toInt
  exact signs_gen x0 x1 y0 y1 _ _ (hiB a) _ _ (hiB b) (hiB (a - b)) (hiB (b - a)) (cmpI a.toInt b.toInt) _ _ (loB a) _ _ (loB b) (loB (a - b)) (loB (b - a)) w
    (Lib.hid fun w => of_any x0 w hx0.1 hx0.2) (Lib.hid fun w => of_any x1 w hx1.1 hx1.2) (Lib.hid fun w => by rw [ha]; exact add_any _ _ w)
    (Lib.hid fun w => of_any y0 w hy0.1 hy0.2) (Lib.hid fun w => of_any y1 w hy1.1 hy1.2) (Lib.hid fun w => by rw [hb]; exact add_any _ _ w)
    (Lib.hid fun w => sub_any a b w) (Lib.hid fun w => sub_any b a w) (Lib.hid fun w => compare_any a b w)
    (Lib.hid fun w => by have := add_any (a - b) (b - a) w; rw [sign_sum a b] at this; exact this)
    (Lib.hid fun w => by have := compare_any (a - b) 0#128 w; rw [sign_cmp fa fb] at this; exact this)
    (Lib.hid fun w => by have := compare_any b a w; rw [sign_turn a.toInt b.toInt] at this; exact this)
    cs.1 cs.2 (Lib.hid ⟨fun h => by have := (sign_zero a b).1 h; subst this; exact ⟨rfl, rfl⟩, fun h => (sign_zero a b).2 (sum_ext h.1 (by have := h.2; omega))⟩) (Lib.hid awake_any) htab
end Go.Proofs.YtiahfdlmjfpglaaDoor
