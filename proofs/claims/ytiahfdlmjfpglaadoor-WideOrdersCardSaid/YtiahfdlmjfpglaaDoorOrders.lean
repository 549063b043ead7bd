/- The law WideOrders walked: at least one int. -/
import Derived.Test.YtiahfdlmjfpglaaDoorOwnI
import Derived.Test.YtiahfdlmjfpglaaDoorPend
import Derived.Deep.RegionLaw
import Derived.Deep.DeepCutAuto
namespace Go.Proofs.YtiahfdlmjfpglaaDoor
open Go.RowKit

theorem box2_drew {w : World} {g : Nat} {v0 v1 : Value} (h : w.cell? ⟨g, 0, none⟩ = some v0 ∧ w.cell? ⟨g, 1, none⟩ = some v1) : w.drew.cell? ⟨g, 0, none⟩ = some v0 ∧ w.drew.cell? ⟨g, 1, none⟩ = some v1 := h
theorem box2_low {w w1 : World} {B g : Nat} {v0 v1 : Value} (h : w.cell? ⟨g, 0, none⟩ = some v0 ∧ w.cell? ⟨g, 1, none⟩ = some v1) (n : g < B) (hb : Below B w w1) : w1.cell? ⟨g, 0, none⟩ = some v0 ∧ w1.cell? ⟨g, 1, none⟩ = some v1 :=
  ⟨(hb.cell (p := ⟨g, 0, none⟩) n).trans h.1, (hb.cell (p := ⟨g, 1, none⟩) n).trans h.2⟩
/-- One variable filled. -/
def Filled1 (B : Nat) (w W : World) (p : Nat) (ah : Int) (al : Nat) : Prop := Below B w W ∧ BSum W p ah al ∧ B ≤ p
theorem fillOne {B : Nat} {w W : World} {g : Nat} (P : Pend B W [g]) (hB : Below B w W) (ah : Int) (al : Nat) : Filled1 B w ((W.setCell ⟨g, 0, none⟩ (.int .i64 ah)).setCell ⟨g, 1, none⟩ (.int .u64 al)) g ah al :=
  ⟨(hB.setCell P.1 _).setCell P.1 _, P.2.1.set ah al, P.1⟩
theorem fillNew {B : Nat} {w W : World} (h0 : B ≤ W.heap.size) (hB : Below B w W) (ah : Int) (al : Nat) : Filled1 B w (W.alloc (.cells #[.int .i64 ah, .int .u64 al] 24)) W.heap.size ah al :=
  ⟨hB.alloc h0 _, BSum.newS _ _ _, h0⟩
theorem tot {w : World} {ao : Option Addr} {c n : Nat} {m : List Int} {H : Int} {L : Nat} (hn : m.length = n) (h : IntsAt w ao m) (h64 : ints64 m) (e : H = hiB (sumL m) ∧ L = loB (sumL m)) :
    Calls Tryd.prog 23 #[.slice ao n c] w fun e w' => e = .returned (.agg #[.int .i64 H, .int .u64 L]) ∧ Below w.heap.size w w' := by
  subst hn
  rw [e.1, e.2]
  exact total_any ao c m w h h64

set_option maxRecDepth 100000 in
set_option maxHeartbeats 12800000 in
theorem orders_pos (b off cap : Nat) (l : List Int) (byN more : Int) (w : World) (h : IntsAt w (some ⟨b, off, none⟩) l) (h64 : ints64 l) (h1000 : l.length ≤ 1000) (hpos : 0 < l.length) (hcap : l.length ≤ cap) (hcm : cap ≤ 9223372036854775807) (hb0 : -9223372036854775808 ≤ more) (hb1 : more ≤ 9223372036854775807) (htab : TabW w) :
    Calls Tryd.prog 7 #[.slice (some ⟨b, off, none⟩) l.length cap, .int .i64 byN, .int .i64 more] w fun e w' => e = .returned (.bool true) ∧ Below w.heap.size w w' := by
  have HW := Lib.hid awake_any
  obtain ⟨ah, al, EA⟩ : ∃ (ah : Int) (al : Nat), Hid (ah = hiB (sumL l) ∧ al = loB (sumL l)) := ⟨_, _, Lib.hid ⟨rfl, rfl⟩⟩
  have H := Lib.hid h
  have H6 := Lib.hid h64
  have HT := Lib.hid htab
  clear h h64 htab
  generalize hlen : l.length = len at *
  have Hlen := Lib.hid hlen
  clear hlen
  obtain ⟨q, hq, eq⟩ := turn_at byN h1000 hpos
  have i0 : (0 : Int) < (len : Int) := by omega
  have i1 : (len : Int) ≤ 1000 := by omega
  go_enter Tryd.func7, Tryd.ntmps7
  go_wp2_with fail
  refine (HW.out _ HT.out).mono ?_
  rintro e w1 ⟨rfl, hb⟩
  have K1 := Lib.hid hb
  clear hb
  go_wp2_with fail
  refine (tot Hlen.out (H.out.keep K1.out) H6.out EA.out).mono ?_
  rintro e w2 ⟨rfl, hb⟩
  have K2 := Lib.hid (K1.out.trans (hb.mono K1.out.size))
  clear hb
  go_upto_region 7 with fail
  rw [eq]
  clear eq
  have B7 := Lib.hid (BSum.newS w2 ah al)
  have K3 := Lib.hid (K2.out.alloc K2.out.size (.cells #[.int .i64 ah, .int .u64 al] 24))
  have s7 : w.heap.size ≤ w2.heap.size := K2.out.size
  obtain ⟨w3, hw3⟩ : ∃ w3, w3 = w2.alloc (.cells #[.int .i64 ah, .int .u64 al] 24) := ⟨_, rfl⟩
  rw [← hw3] at B7 K3
  obtain ⟨j0, hj, hz0, hz1, hz2⟩ := info_parts int_info
  go_wp2_with fail
  rw [← hw3]
  generalize w2.heap.size = g7 at *
  clear hw3
  go_loopw [9, 10] (fun v i wr => ∃ (r n : Nat) (cur : List Int), r ≤ len ∧ n ≤ 1000 ∧ Hid (n + r = len) ∧ i = .int .i64 ((r : Int) - 1) ∧ Hid (cur = (l.drop r).reverse) ∧ Hid (OwnInts w3 cur v n wr)) (fun _ i _ => (intOf i + 1).toNat)
  case atStart => exact ⟨len, 0, [], Nat.le_refl _, by omega, Lib.hid (by omega), by go_num, Lib.hid (by rw [← Hlen.out]; simp), Lib.hid (OwnInts.begin _ _ (Below.refl _ _))⟩
  case round =>
    obtain ⟨r, n, cur, hr, hn1, HNR, rfl, E, O⟩ := hrel
    have hbl := Lib.hid O.out.below
    have hbs := hbl.out.size
    by_cases hlt : 0 < r
    · obtain ⟨r, rfl⟩ : ∃ j, r = j + 1 := ⟨r - 1, by omega⟩
      have e1 : ((r + 1 : Nat) : Int) - 1 = r := by omega
      rw [e1] at *
      clear e1
      have hr' : r < len := by omega
      have hr1 : (r : Int) < (len : Int) := by omega
      obtain ⟨b', off', e0, hbs', c0⟩ := ((H.out.keep K3.out).keep hbl.out).at (i := r) (by rw [Hlen.out]; exact hr')
      cases e0
      have EN : Hid ((l.drop r).reverse = cur ++ [l.getD r 0]) := Lib.hid (by rw [E.out]; exact back_more (by rw [Hlen.out]; exact hr'))
      generalize l.getD r 0 = x at *
      have hn2 : n + 1 ≤ 1000 := by have := HNR.out; omega
      have HN2 := Lib.hid (show n + 1 + r = len by have := HNR.out; omega)
      go_wp2_with (at_builtin; refine wpList_append_own _ rfl _ _ 46 rfl w3.heap.size 3 j0 (.int .i64 0) 1 8 Tryd.underlying46 hj hz0 hz1 hz2 rfl (by decide) _ _ _ rfl (O.out.own.alloc _) ⟨wr.heap.size, 0, none⟩ 1 1 [.int .i64 x] rfl rfl ?c1 ?c2 ?c3 ?c4 ?c5 ?_)
      case c1 =>
        intro j u hj
        match j, hj with
        | 0, hj => simp at hj; subst hj; simp [Addr.add]
      case c2 => first | (intro u hu; simp at hu; subst hu; rfl) | rfl
      case c3 => unfold maxLen; omega
      case c4 => omega
      case c5 => first | omega | (simp; omega)
      intro v' w4 hown' hgrow _
      have ho2 := Lib.hid (O.out.step (x := [x]) _ rfl rfl hown' hgrow)
      clear hown' hgrow
      go_wp2_with fail
      go_roundw
      case rel => exact ⟨r, n + 1, cur ++ [x], by omega, hn2, HN2, by go_num, Lib.hid EN.out.symm, ho2⟩
      case measure => simp [intOf]
    · obtain rfl : r = 0 := by omega
      have EB : Hid (cur = l.reverse) := Lib.hid (by rw [E.out]; simp)
      obtain ⟨ab, cb, rfl, lB, HB⟩ := own_of O.out (by have := O.out.len; omega)
      have HB2 := Lib.hid HB
      have HK := Lib.hid (K3.out.trans (hbl.out.mono K3.out.size))
      have B8 := Lib.hid (B7.out.keep hbl.out)
      have H8 := Lib.hid ((H.out.keep K3.out).keep hbl.out)
      have LB := Lib.hid lB
      clear HB lB
      have q0 : (0 : Int) ≤ (q : Int) := Int.natCast_nonneg _
      have q1 : (q : Int) < (len : Int) := by omega
      have q2 : (q : Int) ≤ (len : Int) := by omega
      have q3 : (len : Int) ≤ (cap : Int) := by omega
      have q4 : (q : Int) < (cap : Int) := by omega
      have q5 : (q : Int) ≤ (cap : Int) := by omega
      have q6 : ¬ cap = q := by omega
      obtain ⟨l1, hl1⟩ : ∃ l1, l1 = (l.drop q).take (len - q) := ⟨_, rfl⟩
      obtain ⟨l2, hl2⟩ : ∃ l2, l2 = (l.drop 0).take q := ⟨_, rfl⟩
      have n1 : l1.length = len - q := by rw [hl1, List.length_take, List.length_drop, Hlen.out]; omega
      have n2 : l2.length = q := by rw [hl2, List.length_take, List.length_drop, Hlen.out]; omega
      have HC1 := Lib.hid (fun w' (hb : Below wr.heap.size wr w') => hl1 ▸ part_cells (o := off) (q := q) (m := len - q) (H8.out.keep hb))
      have HC2 := Lib.hid (fun w' (hb : Below wr.heap.size wr w') => hl2 ▸ part_cells (o := off) (q := 0) (m := q) (H8.out.keep hb))
      have L1 := Lib.hid (show l1 = l.drop q by rw [hl1, List.take_of_length_le (by rw [List.length_drop, Hlen.out]; omega)])
      have L2 := Lib.hid (show l2 = l.take q by rw [hl2]; rfl)
      clear hl1 hl2
      have OE := Lib.hid (own_empty wr.heap.size wr (Nat.le_refl _))
      have k0 := B8.out.c0
      have klt := B8.out.lt
      go_upto_region 12 with fail
      go_region_held3 (fun w' => w'.cell? ⟨g7, 0, none⟩ = some (.int .i64 ah)) (first | (with_reducible exact k0) | exact k0 | (with_reducible exact c5) | (with_reducible exact c4) | go_keep | fail) (first | (refine step_append_own _ (by rfl) (.tmp 47) (.tmp 50) _ (by rfl) wr.heap.size 3 j0 (.int .i64 0) 1 8 Tryd.underlying46 hj hz0 hz1 hz2 rfl (by decide) (.slice (some ⟨wr.heap.size, 0, none⟩) 0 0) 0 [] (by rfl) OE.out ⟨b, off + q, none⟩ (len - q) (cap - q) (l1.map (Value.int .i64)) (by simp [Act.eval]) (by simp only [List.length_map]; omega) (HC1.out _ ((Below.refl _ _).alloc (Nat.le_refl _) _).drew) (one_cells _) (by unfold maxLen; omega) (by omega) (by simp) ?_; intro v4 w4 hown4 hgrow4; have B4 := Lib.hid (((Below.refl wr.heap.size wr).alloc (Nat.le_refl _) (.cells #[] 3)).drew.grown hgrow4 (by simp) (fun k hk => (OE.out.lt k hk).1)); have hs4 := B4.out.size; have c4 := (B4.out.cell (p := ⟨g7, 0, none⟩) klt).trans k0; have F4 := Lib.hid (fun k hk => (hown4.lt k hk).1)) | (refine step_append_own _ (by rfl) (.tmp 51) (.tmp 54) _ (by rfl) wr.heap.size 3 j0 (.int .i64 0) 1 8 Tryd.underlying46 hj hz0 hz1 hz2 rfl (by decide) v4 _ _ (by rfl) hown4 ⟨b, off + 0, none⟩ q cap (l2.map (Value.int .i64)) (by rfl) (by simp only [List.length_map]; omega) (HC2.out _ B4.out) (one_cells _) (by unfold maxLen; omega) (by omega) (by omega) ?_; intro v5 w5 hown5 hgrow5; have B5 := Lib.hid (B4.out.grown hgrow5 hs4 F4.out); have c5 := (B5.out.cell (p := ⟨g7, 0, none⟩) klt).trans k0))
      all_goals
        obtain ⟨au, cu, rfl, lU, hU⟩ := own_ints (l := l1 ++ l2) (by simpa using hown5) (by simp only [List.length_append]; omega)
        have HU := Lib.hid hU
        have LU := Lib.hid lU
        clear hown4 hown5 hgrow4 hgrow5 hU lU
        obtain ⟨oh, ol, ph, pl, HO, HA, HSb⟩ : ∃ (oh : Int) (ol : Nat) (ph : Int) (pl : Nat), Hid (∀ w, Calls Tryd.prog 18 #[.int .i64 more] w fun e w' => e = .returned (.agg #[.int .i64 oh, .int .u64 ol]) ∧ Below w.heap.size w w') ∧ Hid (∀ w, Calls Tryd.prog 11 #[.agg #[.int .i64 ah, .int .u64 al], .agg #[.int .i64 oh, .int .u64 ol]] w fun e w' => e = .returned (.agg #[.int .i64 ph, .int .u64 pl]) ∧ Below w.heap.size w w') ∧ Hid (∀ w, Calls Tryd.prog 13 #[.agg #[.int .i64 ph, .int .u64 pl], .agg #[.int .i64 oh, .int .u64 ol]] w fun e w' => e = .returned (.agg #[.int .i64 ah, .int .u64 al]) ∧ Below w.heap.size w w') :=
          ⟨_, _, _, _, Lib.hid fun w => of_any more w hb0 hb1, Lib.hid fun w => by rw [EA.out.1, EA.out.2]; exact add_any _ _ w, Lib.hid fun w => by rw [EA.out.1, EA.out.2]; have := sub_any (sumL l + BitVec.ofInt 128 more) (BitVec.ofInt 128 more) w; rw [sum_comes] at this; exact this⟩
        have K5 := Lib.hid (HK.out.trans (B5.out.mono HK.out.size))
        have B9 := Lib.hid (B8.out.keep B5.out)
        have H9 := Lib.hid (H8.out.keep B5.out)
        have HB9 := Lib.hid (HB2.out.keep B5.out)
        have g7lt := B9.out.lt
        have k1 : w5.cell? ⟨g7, 0, none⟩ = some (.int .i64 ah) ∧ w5.cell? ⟨g7, 1, none⟩ = some (.int .u64 al) := ⟨B9.out.c0, B9.out.c1⟩
        have BB : Below w5.heap.size w5 w5 := Below.refl _ _
        have P : Pend w5.heap.size w5 [] := trivial
        go_upto_region 13 with fail
        go_cut [12] (fun p wx => ∃ b12 : Nat, p = .pointer (some ⟨b12, 0, none⟩) ∧ Hid (Filled1 w5.heap.size w5 wx b12 ah al))
        case first =>
          go_region_held3 (fun w' => w'.cell? ⟨g7, 0, none⟩ = some (.int .i64 ah) ∧ w'.cell? ⟨g7, 1, none⟩ = some (.int .u64 al)) (first | (with_reducible assumption) | (with_reducible exact box2_drew k1) | ((try clear q15 q16); exact box2_low (B := w5.heap.size) c (by omega) (by (repeat first | (with_reducible exact Below.refl _ _) | (with_reducible refine Below.setCell ?_ (by dsimp only; omega) _) | (with_reducible refine Below.alloc ?_ (by first | omega | (simp; omega)) _) | fail))) | (with_reducible exact box2_keep (by assumption) ((Below.refl _ _).alloc (Nat.le_refl _) _)) | fail) (first | (go_at_call 18; (with_reducible refine (HO.out _).mono ?_); rintro e v ⟨rfl, g⟩; (first | have u := undrew g | have u := g); have c := box2_keep (by assumption) g; have s := u.size; (try simp only [World.size_alloc] at s); (first | (have P := P.keep1 (by omega) u; have BB : Below w5.heap.size w5 v := (BB.alloc (by omega) _).trans (u.mono (by simp <;> omega))) | (have P : Pend w5.heap.size _ _ := (by with_reducible exact Pend.keep u P); have BB : Below w5.heap.size w5 v := BB.trans (u.mono (by omega)))); clear g u) | (go_at_call 11; (with_reducible refine (HA.out _).mono ?_); rintro e v ⟨rfl, g⟩; (first | have u := undrew g | have u := g); have c := box2_keep (by assumption) g; have s := u.size; (try simp only [World.size_alloc] at s); (first | (have P := P.keep1 (by omega) u; have BB : Below w5.heap.size w5 v := (BB.alloc (by omega) _).trans (u.mono (by simp <;> omega))) | (have P : Pend w5.heap.size _ _ := (by with_reducible exact Pend.keep u P); have BB : Below w5.heap.size w5 v := BB.trans (u.mono (by omega)))); clear g u) | (go_at_call 13; (with_reducible refine (HSb.out _).mono ?_); rintro e v ⟨rfl, g⟩; (first | have u := undrew g | have u := g); have c := box2_keep (by assumption) g; have s := u.size; (try simp only [World.size_alloc] at s); (first | (have P := P.keep1 (by omega) u; have BB : Below w5.heap.size w5 v := (BB.alloc (by omega) _).trans (u.mono (by simp <;> omega))) | (have P : Pend w5.heap.size _ _ := (by with_reducible exact Pend.keep u P); have BB : Below w5.heap.size w5 v := BB.trans (u.mono (by omega)))); clear g u; (try (have q10 := P.2.1.c0; have q11 := P.2.1.c1; have q12 := P.2.1.fr 0; have q13 := P.2.1.fr 1; have q14 := P.2.1.lt; have q15 := Nat.ne_of_lt q14; have q16 := Ne.symm q15; have q17 := P.1))))
          all_goals
            go_wp2_with fail
            go_meet
            refine ⟨_, rfl, Lib.hid ?_⟩
            try clear q15 q16
            first | (with_reducible exact fillOne P BB _ _) | (with_reducible exact fillNew (by omega) BB _ _)
        case rest =>
          obtain ⟨b12, rfl, Hf⟩ := hcut
          clear k1 BB P
          have KC := Lib.hid (K5.out.trans (Hf.out.1.mono K5.out.size))
          have BC := Lib.hid (B9.out.keep Hf.out.1)
          have BF := Lib.hid Hf.out.2.1
          have HC := Lib.hid (H9.out.keep Hf.out.1)
          have HBC := Lib.hid (HB9.out.keep Hf.out.1)
          have HUC := Lib.hid (HU.out.keep Hf.out.1)
          have T1 := Lib.hid (fun W (hb : Below wc.heap.size wc W) => tot (c := cb) LB.out (HBC.out.keep hb) (ints64_sub H6.out (m := cur) (by rw [EB.out]; intro x hx; exact List.mem_reverse.1 hx)) (by rw [EB.out, sum_back]; exact EA.out))
          have T2 := Lib.hid (fun W (hb : Below wc.heap.size wc W) => tot (c := cu) LU.out (HUC.out.keep hb) (ints64_sub H6.out (m := l1 ++ l2) (by rw [L1.out, L2.out]; intro x hx; rcases List.mem_append.1 hx with h' | h'; exact List.mem_of_mem_drop h'; exact List.mem_of_mem_take h')) (by rw [L1.out, L2.out, sum_turned]; exact EA.out))
          obtain ⟨xh, xl, yh, yl, T3, T4, T5⟩ : ∃ (xh : Int) (xl : Nat) (yh : Int) (yl : Nat), Hid (∀ W, Below wc.heap.size wc W → Calls Tryd.prog 23 #[.slice (some ⟨b, off, none⟩) q cap] W fun e w' => e = .returned (.agg #[.int .i64 xh, .int .u64 xl]) ∧ Below W.heap.size W w') ∧ Hid (∀ W, Below wc.heap.size wc W → Calls Tryd.prog 23 #[.slice (some ⟨b, off + q, none⟩) (len - q) (cap - q)] W fun e w' => e = .returned (.agg #[.int .i64 yh, .int .u64 yl]) ∧ Below W.heap.size W w') ∧ Hid (∀ w, Calls Tryd.prog 11 #[.agg #[.int .i64 xh, .int .u64 xl], .agg #[.int .i64 yh, .int .u64 yl]] w fun e w' => e = .returned (.agg #[.int .i64 ah, .int .u64 al]) ∧ Below w.heap.size w w') :=
            ⟨_, _, _, _, Lib.hid fun W hb => tot (m := l.take q) (by rw [List.length_take, Hlen.out]; omega) (ints_take q (HC.out.keep hb)) (ints64_sub H6.out fun x hx => List.mem_of_mem_take hx) ⟨rfl, rfl⟩,
              Lib.hid fun W hb => tot (m := l.drop q) (by rw [List.length_drop, Hlen.out]) (ints_drop q (HC.out.keep hb) (by rw [Hlen.out]; exact hq)) (ints64_sub H6.out fun x hx => List.mem_of_mem_drop hx) ⟨rfl, rfl⟩,
              Lib.hid fun w => by rw [EA.out.1, EA.out.2]; have := add_any (sumL (l.take q)) (sumL (l.drop q)) w; rw [sum_cut] at this; exact this⟩
          have k1 : wc.cell? ⟨g7, 0, none⟩ = some (.int .i64 ah) ∧ wc.cell? ⟨g7, 1, none⟩ = some (.int .u64 al) ∧ wc.cell? ⟨b12, 0, none⟩ = some (.int .i64 ah) ∧ wc.cell? ⟨b12, 1, none⟩ = some (.int .u64 al) := ⟨BC.out.c0, BC.out.c1, BF.out.c0, BF.out.c1⟩
          have BW : Below wc.heap.size wc wc := Below.refl _ _
          go_upto_region 14 with fail
          go_region_held3 (fun w' => w'.cell? ⟨g7, 0, none⟩ = some (.int .i64 ah) ∧ w'.cell? ⟨g7, 1, none⟩ = some (.int .u64 al) ∧ w'.cell? ⟨b12, 0, none⟩ = some (.int .i64 ah) ∧ w'.cell? ⟨b12, 1, none⟩ = some (.int .u64 al)) (first | (with_reducible assumption) | (with_reducible exact box4_drew k1) | fail) (first | (go_at_call_of 23 (Value.slice ab n cb); (with_reducible refine (T1.out _ (by first | exact BW | exact BW.drew)).mono ?_); rintro e v ⟨rfl, g⟩; (first | have u := undrew g | have u := g); have c := box4_keep (by assumption) g; have BW : Below wc.heap.size wc v := BW.trans (u.mono BW.size); clear g u) | (go_at_call_of 23 (Value.slice au (len - q + q) cu); (with_reducible refine (T2.out _ (by first | exact BW | exact BW.drew)).mono ?_); rintro e v ⟨rfl, g⟩; (first | have u := undrew g | have u := g); have c := box4_keep (by assumption) g; have BW : Below wc.heap.size wc v := BW.trans (u.mono BW.size); clear g u) | (go_at_call_of 23 (Value.slice (some ⟨b, off, none⟩) q cap); (with_reducible refine (T3.out _ (by first | exact BW | exact BW.drew)).mono ?_); rintro e v ⟨rfl, g⟩; (first | have u := undrew g | have u := g); have c := box4_keep (by assumption) g; have BW : Below wc.heap.size wc v := BW.trans (u.mono BW.size); clear g u) | (go_at_call_of 23 (Value.slice (some ⟨b, off + q, none⟩) (len - q) (cap - q)); (with_reducible refine (T4.out _ (by first | exact BW | exact BW.drew)).mono ?_); rintro e v ⟨rfl, g⟩; (first | have u := undrew g | have u := g); have c := box4_keep (by assumption) g; have BW : Below wc.heap.size wc v := BW.trans (u.mono BW.size); clear g u) | (go_at_call 11; (with_reducible refine (T5.out _).mono ?_); rintro e v ⟨rfl, g⟩; (first | have u := undrew g | have u := g); have c := box4_keep (by assumption) g; have BW : Below wc.heap.size wc v := BW.trans (u.mono BW.size); clear g u))
          all_goals
            go_wp2_with fail
            go_ret
            exact ⟨ret_bool (by simp), KC.out.trans (BW.mono KC.out.size)⟩
end Go.Proofs.YtiahfdlmjfpglaaDoor
