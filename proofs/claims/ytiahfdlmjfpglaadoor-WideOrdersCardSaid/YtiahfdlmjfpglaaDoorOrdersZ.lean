/- The law WideOrders walked: no int at all, or too many. -/
import Derived.Test.YtiahfdlmjfpglaaDoorOrders
namespace Go.Proofs.YtiahfdlmjfpglaaDoor
open Go.RowKit

set_option maxRecDepth 100000 in
set_option maxHeartbeats 12800000 in
theorem orders_nil (byN more : Int) (w : World) (hb0 : -9223372036854775808 ≤ more) (hb1 : more ≤ 9223372036854775807) (htab : TabW w) :
    Calls Tryd.prog 7 #[.slice none 0 0, .int .i64 byN, .int .i64 more] w fun e w' => e = .returned (.bool true) ∧ Below w.heap.size w w' := by
  have IE : ∀ (W : World) (ao : Option Addr), IntsAt W ao [] := fun _ _ => ⟨by simp, .inl rfl⟩
  have HI := Lib.hid IE
  clear IE
  have HW := Lib.hid awake_any
  obtain ⟨ah, al, EA⟩ : ∃ (ah : Int) (al : Nat), Hid (ah = hiB (sumL []) ∧ al = loB (sumL [])) := ⟨_, _, Lib.hid ⟨rfl, rfl⟩⟩
  have HT := Lib.hid htab
  clear htab
  go_enter Tryd.func7, Tryd.ntmps7
  go_wp2_with fail
  refine (HW.out _ HT.out).mono ?_
  rintro e w1 ⟨rfl, hb⟩
  have K1 := Lib.hid hb
  clear hb
  go_wp2_with fail
  refine (tot (m := []) rfl (HI.out _ _) (fun x hx => by cases hx) EA.out).mono ?_
  rintro e w2 ⟨rfl, hb⟩
  have K2 := Lib.hid (K1.out.trans (hb.mono K1.out.size))
  clear hb
  have B7 := Lib.hid (BSum.newS w2 ah al)
  have K3 := Lib.hid (K2.out.alloc K2.out.size (.cells #[.int .i64 ah, .int .u64 al] 24))
  have s7 : w.heap.size ≤ w2.heap.size := K2.out.size
  obtain ⟨w3, hw3⟩ : ∃ w3, w3 = w2.alloc (.cells #[.int .i64 ah, .int .u64 al] 24) := ⟨_, rfl⟩
  rw [← hw3] at B7 K3
  obtain ⟨j0, hj, hz0, hz1, hz2⟩ := info_parts int_info
  go_wp2_with fail
  rw [← hw3]
  generalize w2.heap.size = g7 at *
  clear hw3
  go_loopw [9, 10] (fun v i wr => v = .slice none 0 0 ∧ i = .int .i64 (-1) ∧ Hid (Below w3.heap.size w3 wr)) (fun _ i _ => (intOf i + 1).toNat)
  case atStart => exact ⟨rfl, by go_num, Lib.hid (Below.refl _ _)⟩
  case round =>
      obtain ⟨rfl, rfl, hbl⟩ := hrel
      have hbs := hbl.out.size
      have HK := Lib.hid (K3.out.trans (hbl.out.mono K3.out.size))
      have B8 := Lib.hid (B7.out.keep hbl.out)
      have OE := Lib.hid (own_empty wr.heap.size wr (Nat.le_refl _))
      have k0 := B8.out.c0
      have klt := B8.out.lt
      go_upto_region 12 with fail
      go_region_held3 (fun w' => w'.cell? ⟨g7, 0, none⟩ = some (.int .i64 ah)) (first | (with_reducible exact k0) | exact k0 | go_keep | fail) (fail)
      all_goals
        obtain ⟨oh, ol, ph, pl, HO, HA, HSb⟩ : ∃ (oh : Int) (ol : Nat) (ph : Int) (pl : Nat), Hid (∀ w, Calls Tryd.prog 18 #[.int .i64 more] w fun e w' => e = .returned (.agg #[.int .i64 oh, .int .u64 ol]) ∧ Below w.heap.size w w') ∧ Hid (∀ w, Calls Tryd.prog 11 #[.agg #[.int .i64 ah, .int .u64 al], .agg #[.int .i64 oh, .int .u64 ol]] w fun e w' => e = .returned (.agg #[.int .i64 ph, .int .u64 pl]) ∧ Below w.heap.size w w') ∧ Hid (∀ w, Calls Tryd.prog 13 #[.agg #[.int .i64 ph, .int .u64 pl], .agg #[.int .i64 oh, .int .u64 ol]] w fun e w' => e = .returned (.agg #[.int .i64 ah, .int .u64 al]) ∧ Below w.heap.size w w') :=
          ⟨_, _, _, _, Lib.hid fun w => of_any more w hb0 hb1, Lib.hid fun w => by rw [EA.out.1, EA.out.2]; exact add_any _ _ w, Lib.hid fun w => by rw [EA.out.1, EA.out.2]; have := sub_any (sumL [] + BitVec.ofInt 128 more) (BitVec.ofInt 128 more) w; rw [sum_comes] at this; exact this⟩
        obtain ⟨w5, hw5⟩ : ∃ w5, w5 = (wr.alloc (.cells #[] 3)).drew := ⟨_, rfl⟩
        have B5 := Lib.hid (show Below wr.heap.size wr w5 by rw [hw5]; exact ((Below.refl _ _).alloc (Nat.le_refl _) _).drew)
        rw [← hw5]
        clear hw5
        have K5 := Lib.hid (HK.out.trans (B5.out.mono HK.out.size))
        have B9 := Lib.hid (B8.out.keep B5.out)
        have g7lt := B9.out.lt
        have k1 : w5.cell? ⟨g7, 0, none⟩ = some (.int .i64 ah) ∧ w5.cell? ⟨g7, 1, none⟩ = some (.int .u64 al) := ⟨B9.out.c0, B9.out.c1⟩
        have BB : Below w5.heap.size w5 w5 := Below.refl _ _
        have P : Pend w5.heap.size w5 [] := trivial
        go_upto_region 13 with fail
        go_cut [12] (fun p wx => ∃ b12 : Nat, p = .pointer (some ⟨b12, 0, none⟩) ∧ Hid (Filled1 w5.heap.size w5 wx b12 ah al))
        case first =>
          go_region_held3 (fun w' => w'.cell? ⟨g7, 0, none⟩ = some (.int .i64 ah) ∧ w'.cell? ⟨g7, 1, none⟩ = some (.int .u64 al)) (first | (with_reducible assumption) | (with_reducible exact box2_drew k1) | ((try clear q15 q16); exact box2_low (B := w5.heap.size) c (by omega) (by (repeat first | (with_reducible exact Below.refl _ _) | (with_reducible refine Below.setCell ?_ (by dsimp only; omega) _) | (with_reducible refine Below.alloc ?_ (by first | omega | (simp; omega)) _) | fail))) | (with_reducible exact box2_keep (by assumption) ((Below.refl _ _).alloc (Nat.le_refl _) _)) | fail) (first | (go_at_call 18; (with_reducible refine (HO.out _).mono ?_); rintro e v ⟨rfl, g⟩; (first | have u := undrew g | have u := g); have c := box2_keep (by assumption) g; have s := u.size; (try simp only [World.size_alloc] at s); (first | (have P := P.keep1 (by omega) u; have BB : Below w5.heap.size w5 v := (BB.alloc (by omega) _).trans (u.mono (by simp <;> omega))) | (have P : Pend w5.heap.size _ _ := (by with_reducible exact Pend.keep u P); have BB : Below w5.heap.size w5 v := BB.trans (u.mono (by omega)))); clear g u) | (go_at_call 11; (with_reducible refine (HA.out _).mono ?_); rintro e v ⟨rfl, g⟩; (first | have u := undrew g | have u := g); have c := box2_keep (by assumption) g; have s := u.size; (try simp only [World.size_alloc] at s); (first | (have P := P.keep1 (by omega) u; have BB : Below w5.heap.size w5 v := (BB.alloc (by omega) _).trans (u.mono (by simp <;> omega))) | (have P : Pend w5.heap.size _ _ := (by with_reducible exact Pend.keep u P); have BB : Below w5.heap.size w5 v := BB.trans (u.mono (by omega)))); clear g u) | (go_at_call 13; (with_reducible refine (HSb.out _).mono ?_); rintro e v ⟨rfl, g⟩; (first | have u := undrew g | have u := g); have c := box2_keep (by assumption) g; have s := u.size; (try simp only [World.size_alloc] at s); (first | (have P := P.keep1 (by omega) u; have BB : Below w5.heap.size w5 v := (BB.alloc (by omega) _).trans (u.mono (by simp <;> omega))) | (have P : Pend w5.heap.size _ _ := (by with_reducible exact Pend.keep u P); have BB : Below w5.heap.size w5 v := BB.trans (u.mono (by omega)))); clear g u; (try (have q10 := P.2.1.c0; have q11 := P.2.1.c1; have q12 := P.2.1.fr 0; have q13 := P.2.1.fr 1; have q14 := P.2.1.lt; have q15 := Nat.ne_of_lt q14; have q16 := Ne.symm q15; have q17 := P.1))))
          all_goals
            go_wp2_with fail
            go_meet
            refine ⟨_, rfl, Lib.hid ?_⟩
            try clear q15 q16
            first | (with_reducible exact fillOne P BB _ _) | (with_reducible exact fillNew (by omega) BB _ _)
        case rest =>
          obtain ⟨b12, rfl, Hf⟩ := hcut
          clear k1 BB P
          have KC := Lib.hid (K5.out.trans (Hf.out.1.mono K5.out.size))
          have BC := Lib.hid (B9.out.keep Hf.out.1)
          have BF := Lib.hid Hf.out.2.1
          have T1 := Lib.hid (fun W ao c => tot (w := W) (ao := ao) (c := c) (n := 0) (m := []) rfl (HI.out _ _) (fun x hx => by cases hx) EA.out)
          have T5 : Hid (∀ w, Calls Tryd.prog 11 #[.agg #[.int .i64 ah, .int .u64 al], .agg #[.int .i64 ah, .int .u64 al]] w fun e w' => e = .returned (.agg #[.int .i64 ah, .int .u64 al]) ∧ Below w.heap.size w w') :=
            Lib.hid fun w => by rw [EA.out.1, EA.out.2]; have := add_any (sumL []) (sumL []) w; rw [show sumL [] + sumL [] = sumL [] from sum_cut [] 0] at this; exact this
          have k1 : wc.cell? ⟨g7, 0, none⟩ = some (.int .i64 ah) ∧ wc.cell? ⟨g7, 1, none⟩ = some (.int .u64 al) ∧ wc.cell? ⟨b12, 0, none⟩ = some (.int .i64 ah) ∧ wc.cell? ⟨b12, 1, none⟩ = some (.int .u64 al) := ⟨BC.out.c0, BC.out.c1, BF.out.c0, BF.out.c1⟩
          have BW : Below wc.heap.size wc wc := Below.refl _ _
          go_upto_region 14 with fail
          go_region_held3 (fun w' => w'.cell? ⟨g7, 0, none⟩ = some (.int .i64 ah) ∧ w'.cell? ⟨g7, 1, none⟩ = some (.int .u64 al) ∧ w'.cell? ⟨b12, 0, none⟩ = some (.int .i64 ah) ∧ w'.cell? ⟨b12, 1, none⟩ = some (.int .u64 al)) (first | (with_reducible assumption) | (with_reducible exact box4_drew k1) | fail) (first | (go_at_call 23; (with_reducible refine (T1.out _ _ _).mono ?_); rintro e v ⟨rfl, g⟩; (first | have u := undrew g | have u := g); have c := box4_keep (by assumption) g; have BW : Below wc.heap.size wc v := BW.trans (u.mono BW.size); clear g u) | (go_at_call 11; (with_reducible refine (T5.out _).mono ?_); rintro e v ⟨rfl, g⟩; (first | have u := undrew g | have u := g); have c := box4_keep (by assumption) g; have BW : Below wc.heap.size wc v := BW.trans (u.mono BW.size); clear g u))
          all_goals
            go_wp2_with fail
            go_ret
            exact ⟨ret_bool (by simp), KC.out.trans (BW.mono KC.out.size)⟩
set_option maxRecDepth 100000 in
set_option maxHeartbeats 12800000 in
theorem orders_cap0 (x : Addr) (byN more : Int) (w : World) (hb0 : -9223372036854775808 ≤ more) (hb1 : more ≤ 9223372036854775807) (htab : TabW w) :
    Calls Tryd.prog 7 #[.slice (some x) 0 0, .int .i64 byN, .int .i64 more] w fun e w' => e = .returned (.bool true) ∧ Below w.heap.size w w' := by
  have IE : ∀ (W : World) (ao : Option Addr), IntsAt W ao [] := fun _ _ => ⟨by simp, .inl rfl⟩
  have HI := Lib.hid IE
  clear IE
  have HW := Lib.hid awake_any
  obtain ⟨ah, al, EA⟩ : ∃ (ah : Int) (al : Nat), Hid (ah = hiB (sumL []) ∧ al = loB (sumL [])) := ⟨_, _, Lib.hid ⟨rfl, rfl⟩⟩
  have HT := Lib.hid htab
  clear htab
  go_enter Tryd.func7, Tryd.ntmps7
  go_wp2_with fail
  refine (HW.out _ HT.out).mono ?_
  rintro e w1 ⟨rfl, hb⟩
  have K1 := Lib.hid hb
  clear hb
  go_wp2_with fail
  refine (tot (m := []) rfl (HI.out _ _) (fun x hx => by cases hx) EA.out).mono ?_
  rintro e w2 ⟨rfl, hb⟩
  have K2 := Lib.hid (K1.out.trans (hb.mono K1.out.size))
  clear hb
  have B7 := Lib.hid (BSum.newS w2 ah al)
  have K3 := Lib.hid (K2.out.alloc K2.out.size (.cells #[.int .i64 ah, .int .u64 al] 24))
  have s7 : w.heap.size ≤ w2.heap.size := K2.out.size
  obtain ⟨w3, hw3⟩ : ∃ w3, w3 = w2.alloc (.cells #[.int .i64 ah, .int .u64 al] 24) := ⟨_, rfl⟩
  rw [← hw3] at B7 K3
  obtain ⟨j0, hj, hz0, hz1, hz2⟩ := info_parts int_info
  go_wp2_with fail
  rw [← hw3]
  generalize w2.heap.size = g7 at *
  clear hw3
  go_loopw [9, 10] (fun v i wr => v = .slice none 0 0 ∧ i = .int .i64 (-1) ∧ Hid (Below w3.heap.size w3 wr)) (fun _ i _ => (intOf i + 1).toNat)
  case atStart => exact ⟨rfl, by go_num, Lib.hid (Below.refl _ _)⟩
  case round =>
      obtain ⟨rfl, rfl, hbl⟩ := hrel
      have hbs := hbl.out.size
      have HK := Lib.hid (K3.out.trans (hbl.out.mono K3.out.size))
      have B8 := Lib.hid (B7.out.keep hbl.out)
      have OE := Lib.hid (own_empty wr.heap.size wr (Nat.le_refl _))
      have k0 := B8.out.c0
      have klt := B8.out.lt
      go_upto_region 12 with fail
      go_region_held3 (fun w' => w'.cell? ⟨g7, 0, none⟩ = some (.int .i64 ah)) (first | (with_reducible exact k0) | exact k0 | go_keep | fail) (fail)
      all_goals
        obtain ⟨oh, ol, ph, pl, HO, HA, HSb⟩ : ∃ (oh : Int) (ol : Nat) (ph : Int) (pl : Nat), Hid (∀ w, Calls Tryd.prog 18 #[.int .i64 more] w fun e w' => e = .returned (.agg #[.int .i64 oh, .int .u64 ol]) ∧ Below w.heap.size w w') ∧ Hid (∀ w, Calls Tryd.prog 11 #[.agg #[.int .i64 ah, .int .u64 al], .agg #[.int .i64 oh, .int .u64 ol]] w fun e w' => e = .returned (.agg #[.int .i64 ph, .int .u64 pl]) ∧ Below w.heap.size w w') ∧ Hid (∀ w, Calls Tryd.prog 13 #[.agg #[.int .i64 ph, .int .u64 pl], .agg #[.int .i64 oh, .int .u64 ol]] w fun e w' => e = .returned (.agg #[.int .i64 ah, .int .u64 al]) ∧ Below w.heap.size w w') :=
          ⟨_, _, _, _, Lib.hid fun w => of_any more w hb0 hb1, Lib.hid fun w => by rw [EA.out.1, EA.out.2]; exact add_any _ _ w, Lib.hid fun w => by rw [EA.out.1, EA.out.2]; have := sub_any (sumL [] + BitVec.ofInt 128 more) (BitVec.ofInt 128 more) w; rw [sum_comes] at this; exact this⟩
        obtain ⟨w5, hw5⟩ : ∃ w5, w5 = (wr.alloc (.cells #[] 3)).drew := ⟨_, rfl⟩
        have B5 := Lib.hid (show Below wr.heap.size wr w5 by rw [hw5]; exact ((Below.refl _ _).alloc (Nat.le_refl _) _).drew)
        rw [← hw5]
        clear hw5
        have K5 := Lib.hid (HK.out.trans (B5.out.mono HK.out.size))
        have B9 := Lib.hid (B8.out.keep B5.out)
        have g7lt := B9.out.lt
        have k1 : w5.cell? ⟨g7, 0, none⟩ = some (.int .i64 ah) ∧ w5.cell? ⟨g7, 1, none⟩ = some (.int .u64 al) := ⟨B9.out.c0, B9.out.c1⟩
        have BB : Below w5.heap.size w5 w5 := Below.refl _ _
        have P : Pend w5.heap.size w5 [] := trivial
        go_upto_region 13 with fail
        go_cut [12] (fun p wx => ∃ b12 : Nat, p = .pointer (some ⟨b12, 0, none⟩) ∧ Hid (Filled1 w5.heap.size w5 wx b12 ah al))
        case first =>
          go_region_held3 (fun w' => w'.cell? ⟨g7, 0, none⟩ = some (.int .i64 ah) ∧ w'.cell? ⟨g7, 1, none⟩ = some (.int .u64 al)) (first | (with_reducible assumption) | (with_reducible exact box2_drew k1) | ((try clear q15 q16); exact box2_low (B := w5.heap.size) c (by omega) (by (repeat first | (with_reducible exact Below.refl _ _) | (with_reducible refine Below.setCell ?_ (by dsimp only; omega) _) | (with_reducible refine Below.alloc ?_ (by first | omega | (simp; omega)) _) | fail))) | (with_reducible exact box2_keep (by assumption) ((Below.refl _ _).alloc (Nat.le_refl _) _)) | fail) (first | (go_at_call 18; (with_reducible refine (HO.out _).mono ?_); rintro e v ⟨rfl, g⟩; (first | have u := undrew g | have u := g); have c := box2_keep (by assumption) g; have s := u.size; (try simp only [World.size_alloc] at s); (first | (have P := P.keep1 (by omega) u; have BB : Below w5.heap.size w5 v := (BB.alloc (by omega) _).trans (u.mono (by simp <;> omega))) | (have P : Pend w5.heap.size _ _ := (by with_reducible exact Pend.keep u P); have BB : Below w5.heap.size w5 v := BB.trans (u.mono (by omega)))); clear g u) | (go_at_call 11; (with_reducible refine (HA.out _).mono ?_); rintro e v ⟨rfl, g⟩; (first | have u := undrew g | have u := g); have c := box2_keep (by assumption) g; have s := u.size; (try simp only [World.size_alloc] at s); (first | (have P := P.keep1 (by omega) u; have BB : Below w5.heap.size w5 v := (BB.alloc (by omega) _).trans (u.mono (by simp <;> omega))) | (have P : Pend w5.heap.size _ _ := (by with_reducible exact Pend.keep u P); have BB : Below w5.heap.size w5 v := BB.trans (u.mono (by omega)))); clear g u) | (go_at_call 13; (with_reducible refine (HSb.out _).mono ?_); rintro e v ⟨rfl, g⟩; (first | have u := undrew g | have u := g); have c := box2_keep (by assumption) g; have s := u.size; (try simp only [World.size_alloc] at s); (first | (have P := P.keep1 (by omega) u; have BB : Below w5.heap.size w5 v := (BB.alloc (by omega) _).trans (u.mono (by simp <;> omega))) | (have P : Pend w5.heap.size _ _ := (by with_reducible exact Pend.keep u P); have BB : Below w5.heap.size w5 v := BB.trans (u.mono (by omega)))); clear g u; (try (have q10 := P.2.1.c0; have q11 := P.2.1.c1; have q12 := P.2.1.fr 0; have q13 := P.2.1.fr 1; have q14 := P.2.1.lt; have q15 := Nat.ne_of_lt q14; have q16 := Ne.symm q15; have q17 := P.1))))
          all_goals
            go_wp2_with fail
            go_meet
            refine ⟨_, rfl, Lib.hid ?_⟩
            try clear q15 q16
            first | (with_reducible exact fillOne P BB _ _) | (with_reducible exact fillNew (by omega) BB _ _)
        case rest =>
          obtain ⟨b12, rfl, Hf⟩ := hcut
          clear k1 BB P
          have KC := Lib.hid (K5.out.trans (Hf.out.1.mono K5.out.size))
          have BC := Lib.hid (B9.out.keep Hf.out.1)
          have BF := Lib.hid Hf.out.2.1
          have T1 := Lib.hid (fun W ao c => tot (w := W) (ao := ao) (c := c) (n := 0) (m := []) rfl (HI.out _ _) (fun x hx => by cases hx) EA.out)
          have T5 : Hid (∀ w, Calls Tryd.prog 11 #[.agg #[.int .i64 ah, .int .u64 al], .agg #[.int .i64 ah, .int .u64 al]] w fun e w' => e = .returned (.agg #[.int .i64 ah, .int .u64 al]) ∧ Below w.heap.size w w') :=
            Lib.hid fun w => by rw [EA.out.1, EA.out.2]; have := add_any (sumL []) (sumL []) w; rw [show sumL [] + sumL [] = sumL [] from sum_cut [] 0] at this; exact this
          have k1 : wc.cell? ⟨g7, 0, none⟩ = some (.int .i64 ah) ∧ wc.cell? ⟨g7, 1, none⟩ = some (.int .u64 al) ∧ wc.cell? ⟨b12, 0, none⟩ = some (.int .i64 ah) ∧ wc.cell? ⟨b12, 1, none⟩ = some (.int .u64 al) := ⟨BC.out.c0, BC.out.c1, BF.out.c0, BF.out.c1⟩
          have BW : Below wc.heap.size wc wc := Below.refl _ _
          go_upto_region 14 with fail
          go_region_held3 (fun w' => w'.cell? ⟨g7, 0, none⟩ = some (.int .i64 ah) ∧ w'.cell? ⟨g7, 1, none⟩ = some (.int .u64 al) ∧ w'.cell? ⟨b12, 0, none⟩ = some (.int .i64 ah) ∧ w'.cell? ⟨b12, 1, none⟩ = some (.int .u64 al)) (first | (with_reducible assumption) | (with_reducible exact box4_drew k1) | fail) (first | (go_at_call 23; (with_reducible refine (T1.out _ _ _).mono ?_); rintro e v ⟨rfl, g⟩; (first | have u := undrew g | have u := g); have c := box4_keep (by assumption) g; have BW : Below wc.heap.size wc v := BW.trans (u.mono BW.size); clear g u) | (go_at_call 11; (with_reducible refine (T5.out _).mono ?_); rintro e v ⟨rfl, g⟩; (first | have u := undrew g | have u := g); have c := box4_keep (by assumption) g; have BW : Below wc.heap.size wc v := BW.trans (u.mono BW.size); clear g u))
          all_goals
            go_wp2_with fail
            go_ret
            exact ⟨ret_bool (by simp), KC.out.trans (BW.mono KC.out.size)⟩
set_option maxRecDepth 100000 in
set_option maxHeartbeats 12800000 in
theorem orders_cap (b off cap : Nat) (hc : 0 < cap) (byN more : Int) (w : World) (hb0 : -9223372036854775808 ≤ more) (hb1 : more ≤ 9223372036854775807) (htab : TabW w) :
    Calls Tryd.prog 7 #[.slice (some ⟨b, off, none⟩) 0 cap, .int .i64 byN, .int .i64 more] w fun e w' => e = .returned (.bool true) ∧ Below w.heap.size w w' := by
  have IE : ∀ (W : World) (ao : Option Addr), IntsAt W ao [] := fun _ _ => ⟨by simp, .inl rfl⟩
  have HI := Lib.hid IE
  clear IE
  have hc1 : (0 : Int) < (cap : Int) := by omega
  have hc2 : (0 : Int) ≤ (cap : Int) := by omega
  have hc3 : ¬ cap = 0 := by omega
  have HW := Lib.hid awake_any
  obtain ⟨ah, al, EA⟩ : ∃ (ah : Int) (al : Nat), Hid (ah = hiB (sumL []) ∧ al = loB (sumL [])) := ⟨_, _, Lib.hid ⟨rfl, rfl⟩⟩
  have HT := Lib.hid htab
  clear htab
  go_enter Tryd.func7, Tryd.ntmps7
  go_wp2_with fail
  refine (HW.out _ HT.out).mono ?_
  rintro e w1 ⟨rfl, hb⟩
  have K1 := Lib.hid hb
  clear hb
  go_wp2_with fail
  refine (tot (m := []) rfl (HI.out _ _) (fun x hx => by cases hx) EA.out).mono ?_
  rintro e w2 ⟨rfl, hb⟩
  have K2 := Lib.hid (K1.out.trans (hb.mono K1.out.size))
  clear hb
  have B7 := Lib.hid (BSum.newS w2 ah al)
  have K3 := Lib.hid (K2.out.alloc K2.out.size (.cells #[.int .i64 ah, .int .u64 al] 24))
  have s7 : w.heap.size ≤ w2.heap.size := K2.out.size
  obtain ⟨w3, hw3⟩ : ∃ w3, w3 = w2.alloc (.cells #[.int .i64 ah, .int .u64 al] 24) := ⟨_, rfl⟩
  rw [← hw3] at B7 K3
  obtain ⟨j0, hj, hz0, hz1, hz2⟩ := info_parts int_info
  go_wp2_with fail
  rw [← hw3]
  generalize w2.heap.size = g7 at *
  clear hw3
  go_loopw [9, 10] (fun v i wr => v = .slice none 0 0 ∧ i = .int .i64 (-1) ∧ Hid (Below w3.heap.size w3 wr)) (fun _ i _ => (intOf i + 1).toNat)
  case atStart => exact ⟨rfl, by go_num, Lib.hid (Below.refl _ _)⟩
  case round =>
      obtain ⟨rfl, rfl, hbl⟩ := hrel
      have hbs := hbl.out.size
      have HK := Lib.hid (K3.out.trans (hbl.out.mono K3.out.size))
      have B8 := Lib.hid (B7.out.keep hbl.out)
      have OE := Lib.hid (own_empty wr.heap.size wr (Nat.le_refl _))
      have k0 := B8.out.c0
      have klt := B8.out.lt
      go_upto_region 12 with fail
      go_region_held3 (fun w' => w'.cell? ⟨g7, 0, none⟩ = some (.int .i64 ah)) (first | (with_reducible exact k0) | exact k0 | go_keep | fail) (fail)
      all_goals
        obtain ⟨oh, ol, ph, pl, HO, HA, HSb⟩ : ∃ (oh : Int) (ol : Nat) (ph : Int) (pl : Nat), Hid (∀ w, Calls Tryd.prog 18 #[.int .i64 more] w fun e w' => e = .returned (.agg #[.int .i64 oh, .int .u64 ol]) ∧ Below w.heap.size w w') ∧ Hid (∀ w, Calls Tryd.prog 11 #[.agg #[.int .i64 ah, .int .u64 al], .agg #[.int .i64 oh, .int .u64 ol]] w fun e w' => e = .returned (.agg #[.int .i64 ph, .int .u64 pl]) ∧ Below w.heap.size w w') ∧ Hid (∀ w, Calls Tryd.prog 13 #[.agg #[.int .i64 ph, .int .u64 pl], .agg #[.int .i64 oh, .int .u64 ol]] w fun e w' => e = .returned (.agg #[.int .i64 ah, .int .u64 al]) ∧ Below w.heap.size w w') :=
          ⟨_, _, _, _, Lib.hid fun w => of_any more w hb0 hb1, Lib.hid fun w => by rw [EA.out.1, EA.out.2]; exact add_any _ _ w, Lib.hid fun w => by rw [EA.out.1, EA.out.2]; have := sub_any (sumL [] + BitVec.ofInt 128 more) (BitVec.ofInt 128 more) w; rw [sum_comes] at this; exact this⟩
        obtain ⟨w5, hw5⟩ : ∃ w5, w5 = (wr.alloc (.cells #[] 3)).drew := ⟨_, rfl⟩
        have B5 := Lib.hid (show Below wr.heap.size wr w5 by rw [hw5]; exact ((Below.refl _ _).alloc (Nat.le_refl _) _).drew)
        rw [← hw5]
        clear hw5
        have K5 := Lib.hid (HK.out.trans (B5.out.mono HK.out.size))
        have B9 := Lib.hid (B8.out.keep B5.out)
        have g7lt := B9.out.lt
        have k1 : w5.cell? ⟨g7, 0, none⟩ = some (.int .i64 ah) ∧ w5.cell? ⟨g7, 1, none⟩ = some (.int .u64 al) := ⟨B9.out.c0, B9.out.c1⟩
        have BB : Below w5.heap.size w5 w5 := Below.refl _ _
        have P : Pend w5.heap.size w5 [] := trivial
        go_upto_region 13 with fail
        go_cut [12] (fun p wx => ∃ b12 : Nat, p = .pointer (some ⟨b12, 0, none⟩) ∧ Hid (Filled1 w5.heap.size w5 wx b12 ah al))
        case first =>
          go_region_held3 (fun w' => w'.cell? ⟨g7, 0, none⟩ = some (.int .i64 ah) ∧ w'.cell? ⟨g7, 1, none⟩ = some (.int .u64 al)) (first | (with_reducible assumption) | (with_reducible exact box2_drew k1) | ((try clear q15 q16); exact box2_low (B := w5.heap.size) c (by omega) (by (repeat first | (with_reducible exact Below.refl _ _) | (with_reducible refine Below.setCell ?_ (by dsimp only; omega) _) | (with_reducible refine Below.alloc ?_ (by first | omega | (simp; omega)) _) | fail))) | (with_reducible exact box2_keep (by assumption) ((Below.refl _ _).alloc (Nat.le_refl _) _)) | fail) (first | (go_at_call 18; (with_reducible refine (HO.out _).mono ?_); rintro e v ⟨rfl, g⟩; (first | have u := undrew g | have u := g); have c := box2_keep (by assumption) g; have s := u.size; (try simp only [World.size_alloc] at s); (first | (have P := P.keep1 (by omega) u; have BB : Below w5.heap.size w5 v := (BB.alloc (by omega) _).trans (u.mono (by simp <;> omega))) | (have P : Pend w5.heap.size _ _ := (by with_reducible exact Pend.keep u P); have BB : Below w5.heap.size w5 v := BB.trans (u.mono (by omega)))); clear g u) | (go_at_call 11; (with_reducible refine (HA.out _).mono ?_); rintro e v ⟨rfl, g⟩; (first | have u := undrew g | have u := g); have c := box2_keep (by assumption) g; have s := u.size; (try simp only [World.size_alloc] at s); (first | (have P := P.keep1 (by omega) u; have BB : Below w5.heap.size w5 v := (BB.alloc (by omega) _).trans (u.mono (by simp <;> omega))) | (have P : Pend w5.heap.size _ _ := (by with_reducible exact Pend.keep u P); have BB : Below w5.heap.size w5 v := BB.trans (u.mono (by omega)))); clear g u) | (go_at_call 13; (with_reducible refine (HSb.out _).mono ?_); rintro e v ⟨rfl, g⟩; (first | have u := undrew g | have u := g); have c := box2_keep (by assumption) g; have s := u.size; (try simp only [World.size_alloc] at s); (first | (have P := P.keep1 (by omega) u; have BB : Below w5.heap.size w5 v := (BB.alloc (by omega) _).trans (u.mono (by simp <;> omega))) | (have P : Pend w5.heap.size _ _ := (by with_reducible exact Pend.keep u P); have BB : Below w5.heap.size w5 v := BB.trans (u.mono (by omega)))); clear g u; (try (have q10 := P.2.1.c0; have q11 := P.2.1.c1; have q12 := P.2.1.fr 0; have q13 := P.2.1.fr 1; have q14 := P.2.1.lt; have q15 := Nat.ne_of_lt q14; have q16 := Ne.symm q15; have q17 := P.1))))
          all_goals
            go_wp2_with fail
            go_meet
            refine ⟨_, rfl, Lib.hid ?_⟩
            try clear q15 q16
            first | (with_reducible exact fillOne P BB _ _) | (with_reducible exact fillNew (by omega) BB _ _)
        case rest =>
          obtain ⟨b12, rfl, Hf⟩ := hcut
          clear k1 BB P
          have KC := Lib.hid (K5.out.trans (Hf.out.1.mono K5.out.size))
          have BC := Lib.hid (B9.out.keep Hf.out.1)
          have BF := Lib.hid Hf.out.2.1
          have T1 := Lib.hid (fun W ao c => tot (w := W) (ao := ao) (c := c) (n := 0) (m := []) rfl (HI.out _ _) (fun x hx => by cases hx) EA.out)
          have T5 : Hid (∀ w, Calls Tryd.prog 11 #[.agg #[.int .i64 ah, .int .u64 al], .agg #[.int .i64 ah, .int .u64 al]] w fun e w' => e = .returned (.agg #[.int .i64 ah, .int .u64 al]) ∧ Below w.heap.size w w') :=
            Lib.hid fun w => by rw [EA.out.1, EA.out.2]; have := add_any (sumL []) (sumL []) w; rw [show sumL [] + sumL [] = sumL [] from sum_cut [] 0] at this; exact this
          have k1 : wc.cell? ⟨g7, 0, none⟩ = some (.int .i64 ah) ∧ wc.cell? ⟨g7, 1, none⟩ = some (.int .u64 al) ∧ wc.cell? ⟨b12, 0, none⟩ = some (.int .i64 ah) ∧ wc.cell? ⟨b12, 1, none⟩ = some (.int .u64 al) := ⟨BC.out.c0, BC.out.c1, BF.out.c0, BF.out.c1⟩
          have BW : Below wc.heap.size wc wc := Below.refl _ _
          go_upto_region 14 with fail
          go_region_held3 (fun w' => w'.cell? ⟨g7, 0, none⟩ = some (.int .i64 ah) ∧ w'.cell? ⟨g7, 1, none⟩ = some (.int .u64 al) ∧ w'.cell? ⟨b12, 0, none⟩ = some (.int .i64 ah) ∧ w'.cell? ⟨b12, 1, none⟩ = some (.int .u64 al)) (first | (with_reducible assumption) | (with_reducible exact box4_drew k1) | fail) (first | (go_at_call 23; (with_reducible refine (T1.out _ _ _).mono ?_); rintro e v ⟨rfl, g⟩; (first | have u := undrew g | have u := g); have c := box4_keep (by assumption) g; have BW : Below wc.heap.size wc v := BW.trans (u.mono BW.size); clear g u) | (go_at_call 11; (with_reducible refine (T5.out _).mono ?_); rintro e v ⟨rfl, g⟩; (first | have u := undrew g | have u := g); have c := box4_keep (by assumption) g; have BW : Below wc.heap.size wc v := BW.trans (u.mono BW.size); clear g u))
          all_goals
            go_wp2_with fail
            go_ret
            exact ⟨ret_bool (by simp), KC.out.trans (BW.mono KC.out.size)⟩

set_option maxRecDepth 100000 in
set_option maxHeartbeats 3200000 in
theorem orders_long (a : Option Addr) (cap len : Nat) (byN more : Int) (w : World) (hm : len ≤ 9223372036854775807) (hlen : 1000 < len) (htab : TabW w) :
    Calls Tryd.prog 7 #[.slice a len cap, .int .i64 byN, .int .i64 more] w fun e w' => e = .returned (.bool true) ∧ Below w.heap.size w w' := by
  have HW := Lib.hid awake_any
  have HT := Lib.hid htab
  clear htab
  go_enter Tryd.func7, Tryd.ntmps7
  go_wp2_with fail
  refine (HW.out _ HT.out).mono ?_
  rintro e w1 ⟨rfl, hb⟩
  have T1 := Lib.hid (HT.out.keep hb)
  go_wp2_with fail
  refine (HW.out _ T1.out).mono ?_
  rintro e w2 ⟨rfl, hb2⟩
  go_wp2_with fail
  go_ret
  exact ⟨rfl, hb.trans (hb2.mono hb.size)⟩

theorem WideOrders_any (a : Option Addr) (cap : Nat) (l : List Int) (byN more : Int) (w : World) (h : IntsAt w a l) (h64 : ints64 l) (hcap : l.length ≤ cap) (hcm : cap ≤ 9223372036854775807) (hn : a = none → cap = 0) (ha : ∀ x, a = some x → 0 < cap → x = ⟨x.block, x.off, none⟩) (hb : -9223372036854775808 ≤ more ∧ more ≤ 9223372036854775807) (htab : TabW w) :
    Calls Tryd.prog 7 #[.slice a l.length cap, .int .i64 byN, .int .i64 more] w fun e w' => e = .returned (.bool true) ∧ Below w.heap.size w w' := by
  by_cases h3 : l.length ≤ 1000
  · by_cases h0 : 0 < l.length
    · obtain ⟨b, off, rfl, _, _⟩ := h.at h0
      exact orders_pos b off cap l byN more w h h64 h3 h0 hcap hcm hb.1 hb.2 htab
    · have hl : l.length = 0 := by omega
      rw [hl]
      cases a with
      | none => rw [hn rfl]; exact orders_nil byN more w hb.1 hb.2 htab
      | some x =>
        by_cases hc : cap = 0
        · rw [hc]; exact orders_cap0 x byN more w hb.1 hb.2 htab
        · rw [ha x rfl (by omega)]
          exact orders_cap _ _ cap (by omega) byN more w hb.1 hb.2 htab
  · exact orders_long a cap l.length byN more w h.1 (by omega) htab
end Go.Proofs.YtiahfdlmjfpglaaDoor
