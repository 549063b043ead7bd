/- The law StoreFull walked. The document's Row of layer 6, where the row fits. The law StoreFull, whole. PROVED: the card of StoreFull: at every input, in whatever memory that meets the row's listed variables (which the card ties to the program's text), the call returns true and its arguments read as they did. No condition of our own. -/
import Derived.Test.YtaggacffjbjchaaGreatDoorZa37
import Derived.Test.YtaggacffjbjchaaGreatDoorZa07
import Derived.Deep.RegionHeld
import Derived.Test.YtaggacffjbjchaaGreatDoorZa10
import Derived.Test.YtaggacffjbjchaaGreatDoorZa01
import Derived.Test.YtaggacffjbjchaaGreatDoorCards
import Derived.Test.YtaggacffjbjchaaGreatDoorTie
import Derived.SevenTiedAt
namespace Go.Proofs.YtaggacffjbjchaaGreatDoor
open Go.RowKit

/-- The rows 0 .. k - 1. -/
def fX (k : Nat) : Int → Option (List Vl) := fun m => if 0 ≤ m ∧ m < k then some (rX m ⟨#[120]⟩) else none
theorem fX_zero : fX 0 = fun _ => none := by
  funext m
  unfold fX
  rw [if_neg (by omega)]
theorem fX_next (k : Nat) : updX (fX k) k (some (rX k ⟨#[120]⟩)) = fX (k + 1) := by
  funext m
  unfold updX fX
  by_cases h : m = k
  · subst h
    rw [if_pos rfl, if_pos (by omega)]
  · rw [if_neg h]
    by_cases h2 : 0 ≤ m ∧ m < k
    · rw [if_pos h2, if_pos (by omega)]
    · rw [if_neg h2, if_neg (by omega)]
theorem fX_at {k : Nat} {m : Int} (h0 : 0 ≤ m) (h : m < k) : fX k m = some (rX m ⟨#[120]⟩) := by unfold fX; rw [if_pos ⟨h0, h⟩]
theorem fX_over {k : Nat} {m : Int} (h : (k : Int) ≤ m) : fX k m = none := by unfold fX; rw [if_neg (by omega)]
theorem modK (z : Int) (k : Nat) (h0 : 0 < k) (h1 : k ≤ 200) : ∃ i : Nat, wrap64 ((IntKind.u64.wrap z).tmod k) = (i : Int) ∧ i < k := by
  obtain ⟨y, hy⟩ : ∃ y, y = IntKind.u64.wrap z := ⟨_, rfl⟩
  have hy0 : 0 ≤ y := by
    rw [hy]
    unfold IntKind.wrap
    simp [IntKind.signed, IntKind.bits]
    omega
  rw [← hy]
  have e : y.tmod k = ((y.toNat % k : Nat) : Int) := by
    rw [Int.tmod_eq_emod_of_nonneg hy0, Int.natCast_emod, Int.toNat_of_nonneg hy0]
  have hm : y.toNat % k < k := Nat.mod_lt _ h0
  generalize y.toNat % k = i at *
  refine ⟨i, ?_, hm⟩
  rw [e]
  unfold wrap64
  omega
set_option maxRecDepth 100000 in
theorem field_op2 (k : Int) (n : ByteArray) (a : Ptr) (q c : Nat) (w : World) : Sem.run Tryz.prog (Instr.field 82 (.agg #[.int .i64 k, .string n, .slice a q c]) 2) w = .ok (.slice a q c) w := by rfl
set_option maxRecDepth 100000 in
set_option maxHeartbeats 12800000 in
theorem StoreFull_gen (G : Nat) (n again : Int) (w : World) (HRr : Hid (∀ (a ra : Option Addr) (W : World), ColsAt W.heap.size W a exCols → VvAt W.heap.size W ra ((rX 1000 ⟨#[122]⟩).map vvOf) → Calls Tryz.prog 34 #[.slice a 2 2, .slice ra 2 2] W fun e w' => e = .returned (.bool true) ∧ W.grownBy w' none)) (hn0 : 0 ≤ n) (hn1 : n ≤ 255) (hw : WhyG w) (hE : ErrT G w) (hG : G ≤ w.heap.size) :
    Calls Tryz.prog 7 #[.int .u8 n, .int .i64 again] w fun e w' => e = .returned (.bool true) ∧ Below w.heap.size w w' := by
  have HC := Lib.hid (catalogX_any w)
  have HW := Lib.hid (And.intro hw (And.intro hE hG))
  have HP := Lib.hid putX_any
  clear hw hE hG
  go_enter Tryz.func7, Tryz.ntmps7
  go_wp2_with fail
  refine HC.out.mono ?_
  rintro e w1 ⟨⟨a, a', rfl, ht⟩, hg1⟩
  have HN := Lib.hid (newS_ok a 1 G (fun b => w.heap.size ≤ b) [exTab a'] w1 ht (by simp) (fun t ht => by simp only [List.mem_cons, List.not_mem_nil, or_false] at ht; subst ht; exact Nat.le_refl 2) (HW.out.1.grown hg1) (HW.out.2.1.grown hg1) (ex_right a'))
  simp only [List.length_cons, List.length_nil, Nat.zero_add] at HN
  have G1 := Lib.hid hg1
  clear ht hg1 HC
  go_wp2_with fail
  refine HN.out.mono ?_
  rintro e w2 ⟨⟨s, rfl, hs, hv0, hcs, hsn, hts⟩, hg2⟩
  have X2 := xs_new w1 G s w2 hs (HW.out.2.1.grown G1.out) (Nat.le_trans HW.out.2.2 G1.out.size) hg2 hsn hts
  generalize s.b = b at *
  have X2 := Lib.hid X2
  have V2 := Lib.hid hv0
  have G2 := Lib.hid (G1.out.trans hg2)
  clear hs hv0 hcs hsn hts hg2 HN
  go_wp2_with fail
  refine (awake9_any G w2 (HW.out.1.grown G2.out) (HW.out.2.1.grown G2.out) (Nat.le_trans HW.out.2.2 G2.out.size)).mono ?_
  rintro e w3 ⟨rfl, hg3⟩
  have X3 := Lib.hid (X2.out.keepG hg3)
  clear hg3
  obtain ⟨R, hR⟩ : ∃ R : Nat, (190 + n % 12 : Int) = R := ⟨(190 + n % 12).toNat, by omega⟩
  have hR1 : 190 ≤ R := by omega
  have hR2 : R ≤ 201 := by omega
  go_wp2_with fail
  clear hR
  go_loopw [8] (fun s8 wr => ∃ j : Nat, s8 = .int .i64 j ∧ j ≤ R ∧ Hid (∃ s, XS w1 G b wr s (min j 200) (fX (min j 200)) ∧ s.v ≤ j)) (fun s8 _ => R - (intOf s8).toNat)
  case atStart => exact ⟨0, rfl, by omega, Lib.hid ⟨s, by rw [Nat.zero_min, fX_zero]; exact X3.out, by rw [V2.out]; exact Int.le_refl 0⟩⟩
  case round =>
    obtain ⟨j, rfl, hj, K⟩ := hrel
    by_cases hlt : j < R
    · go_wp2_with fail
      refine (HP.out j ⟨#[120]⟩ _ (by decide)).mono ?_
      rintro e w4 ⟨⟨a4, rfl, hr4⟩, hg4⟩
      by_cases h2 : (j : Int) < 200
      · have HC1 : Hid (Calls Tryz.prog 18 #[.pointer (some ⟨b, 0, none⟩), .slice (some ⟨w4.heap.size, 0, none⟩) 1 1] (w4.alloc (.cells #[.int .i64 1, .string ⟨#[116]⟩, .slice a4 2 2] 82)) fun e w' => ∃ s' v a n' cap, e = .returned (.tuple #[.agg #[.int .i64 v, .slice a n' cap], .int .i64 0]) ∧ XS w1 G b w' s' (min (j + 1) 200) (fX (min (j + 1) 200)) ∧ s'.v ≤ ((j + 1 : Nat) : Int)) := Lib.hid (by
          obtain ⟨sj, hx, hv⟩ := K.out
          rw [show min j 200 = j by omega] at hx
          refine (hx.putNew hg4 a4 j ⟨#[120]⟩ hr4 (by decide) (fX_over (by omega)) (by omega) (by omega)).mono ?_
          rintro e w' ⟨s', v, a, n', cap, rfl, h1, h2⟩
          refine ⟨s', v, a, n', cap, rfl, ?_, by omega⟩
          rw [show min (j + 1) 200 = j + 1 by omega, ← fX_next]
          exact h1)
        clear hr4 hg4 K
        go_wp2_with fail
        refine HC1.out.mono ?_
        rintro e w5 ⟨s5, v5, c5, n5, q5, rfl, hx5, hv5⟩
        have hx5 := hx5.keepG (World.grownBy_alloc w5 (.cells #[.int .i64 v5, .slice c5 n5 q5] 50) none)
        have K5 := Lib.hid (And.intro hx5 hv5)
        clear hx5 hv5 HC1
        go_wp2_with fail
        go_roundw
        case rel => exact ⟨j + 1, by go_num, by omega, Lib.hid ⟨s5, K5.out⟩⟩
        case measure => simp [intOf]; omega
      · have HC1 : Hid (Calls Tryz.prog 18 #[.pointer (some ⟨b, 0, none⟩), .slice (some ⟨w4.heap.size, 0, none⟩) 1 1] (w4.alloc (.cells #[.int .i64 1, .string ⟨#[116]⟩, .slice a4 2 2] 82)) fun e w' => e = .returned (.tuple #[.agg #[.int .i64 0, .slice none 0 0], .int .i64 3]) ∧ ∃ s', XS w1 G b w' s' (min (j + 1) 200) (fX (min (j + 1) 200)) ∧ s'.v ≤ ((j + 1 : Nat) : Int)) := Lib.hid (by
          obtain ⟨sj, hx, hv⟩ := K.out
          rw [show min j 200 = 200 by omega] at hx
          refine (hx.putOver hg4 a4 j ⟨#[120]⟩ hr4 (by decide) (fX_over (by omega)) (by omega) (by omega)).mono ?_
          rintro e w' ⟨rfl, h1⟩
          refine ⟨rfl, sj, ?_, by omega⟩
          rw [show min (j + 1) 200 = 200 by omega]
          exact h1)
        clear hr4 hg4 K
        go_wp2_with fail
        refine HC1.out.mono ?_
        rintro e w5 ⟨rfl, s5, hx5, hv5⟩
        have hx5 := hx5.keepG (World.grownBy_alloc w5 (.cells #[.int .i64 0, .slice none 0 0] 50) none)
        have K5 := Lib.hid (And.intro hx5 hv5)
        clear hx5 hv5 HC1
        go_wp2_with fail
        go_roundw
        case rel => exact ⟨j + 1, by go_num, by omega, Lib.hid ⟨s5, K5.out⟩⟩
        case measure => simp [intOf]; omega
    · obtain rfl : R = j := by omega
      obtain ⟨k, hk⟩ : ∃ k : Nat, (min (R : Int) 200) = k := ⟨min R 200, by omega⟩
      have hkN : min R 200 = k := by omega
      have hk0 : (0 : Int) < k := by omega
      have hk2 : k ≤ 200 := by omega
      have hk1 : 190 ≤ k := by omega
      obtain ⟨s4, hx4, hv4⟩ := K.out
      rw [hkN] at hx4
      have HNo := Lib.hid (now_any w1.heap.size s4 wr hx4.at_)
      rw [hx4.hb] at HNo
      have X4 := Lib.hid hx4
      have V4 := Lib.hid hv4
      clear hx4 hv4 K hkN
      go_wp2_with fail
      refine HNo.out.mono ?_
      rintro e w4 ⟨⟨p, rfl, _, hsn⟩, hg4⟩
      have HL := Lib.hid ((X4.out.keepG hg4).len hsn)
      have X5 := Lib.hid (X4.out.keepG hg4)
      clear hsn hg4 HNo
      go_wp2_with fail
      refine HL.out.mono ?_
      rintro e w5 ⟨rfl, hg5⟩
      have X6 := Lib.hid (X5.out.keepG hg5)
      clear hg5 HL X4 X5
      clear hk
      obtain ⟨i, hi, hik⟩ := modK again k (by omega) hk2
      go_wp2_with fail
      refine (HP.out i ⟨#[121]⟩ _ (by decide)).mono ?_
      rintro e w7 ⟨⟨a7, rfl, hr7⟩, hg7⟩
      have HC7 := Lib.hid (X6.out.putOld hg7 a7 i ⟨#[121]⟩ hr7 (by decide) (fX_at (by omega) (by omega)) (by simp [rX, txV]) hk2 (by have := V4.out; omega))
      clear hr7 hg7
      go_wp2_with fail
      refine HC7.out.mono ?_
      rintro e w8 ⟨s8, v8, c8, n8, q8, rfl, hx8, hv8⟩
      have hx8 := hx8.keepG (World.grownBy_alloc w8 (.cells #[.int .i64 v8, .slice c8 n8 q8] 50) none)
      have HN8 := Lib.hid (now_any w1.heap.size s8 _ hx8.at_)
      rw [hx8.hb] at HN8
      have X8 := Lib.hid hx8
      have V8 := Lib.hid hv8
      clear hx8 hv8 HC7 X6
      go_wp2_with fail
      refine HN8.out.mono ?_
      rintro e w9 ⟨⟨p9, rfl, _, hsn⟩, hg9⟩
      have HL9 := Lib.hid ((X8.out.keepG hg9).len hsn)
      have X9 := Lib.hid (X8.out.keepG hg9)
      clear hsn hg9 HN8
      go_wp2_with fail
      refine HL9.out.mono ?_
      rintro e w10 ⟨rfl, hg10⟩
      have X10 := Lib.hid (X9.out.keepG hg10)
      clear hg10 HL9 X8 X9
      have HI := Lib.hid (refInt_any (i : Int))
      go_wp2_with fail
      refine (HI.out _).mono ?_
      rintro e w11 ⟨rfl, rfl⟩
      unfold vi
      have HS12 := Lib.hid (fun (W : World) (hW : ((w10.alloc (.cells #[.int .i64 2, .int .i64 i, .string ⟨#[]⟩] 79)).alloc (.cells #[.int .i64 2, .int .i64 i, .string ⟨#[]⟩] 79)).grownBy W none) (a12 : Ptr) (hr : RwS (fun j => ((w10.alloc (.cells #[.int .i64 2, .int .i64 i, .string ⟨#[]⟩] 79)).alloc (.cells #[.int .i64 2, .int .i64 i, .string ⟨#[]⟩] 79)).heap.size ≤ j) W a12 (rX 1000 ⟨#[122]⟩)) => show Calls Tryz.prog 18 #[.pointer (some ⟨b, 0, none⟩), .slice (some ⟨W.heap.size, 0, none⟩) 2 2] (W.alloc (.cells #[.int .i64 2, .string ⟨#[116]⟩, .slice (some ⟨w10.heap.size + 1, 0, none⟩) 1 1, .int .i64 1, .string ⟨#[116]⟩, .slice a12 2 2] 82)) fun e w' => ∃ s' v a n' cap, e = .returned (.tuple #[.agg #[.int .i64 v, .slice a n' cap], .int .i64 0]) ∧ XS w1 G b w' s' k (updX (updX (updX (fX k) i (some (rX i ⟨#[121]⟩))) i .none) 1000 (some (rX 1000 ⟨#[122]⟩))) from by
        have hx := X10.out
        rw [show k = k - 1 + 1 by omega] at hx
        have hsw := hx.swap (r := rX i ⟨#[121]⟩) (((World.grownBy_alloc w10 (.cells #[.int .i64 2, .int .i64 i, .string ⟨#[]⟩] 79) none).trans (World.grownBy_alloc _ (.cells #[.int .i64 2, .int .i64 i, .string ⟨#[]⟩] 79) none))) hW (some ⟨w10.heap.size + 1, 0, none⟩) a12 i 1000 ⟨#[122]⟩ (by
          have hr1 := rw_one (w10.alloc (.cells #[.int .i64 2, .int .i64 i, .string ⟨#[]⟩] 79)) 79 (viV i) (fun j => w10.heap.size ≤ j) (by simp) (show 0 ≤ maxLen from Nat.zero_le _)
          simp only [World.size_alloc] at hr1
          exact hr1) hr (by decide) (by simp [updX]) (by simp only [updX]; rw [if_neg (by omega)]; exact fX_over (by omega)) (by omega) (by omega) (by have := V8.out; have := V4.out; omega)
        rw [show k - 1 + 1 = k by omega] at hsw
        refine hsw.mono ?_
        rintro e w' ⟨s', v, a, n', cap, rfl, h1, _⟩
        exact ⟨s', v, a, n', cap, rfl, h1⟩)
      go_wp2_with fail
      refine (HP.out 1000 ⟨#[122]⟩ _ (by decide)).mono ?_
      rintro e w12 ⟨⟨a12, rfl, hr12⟩, hg12⟩
      have HC12 := Lib.hid (HS12.out w12 hg12 a12 hr12)
      clear hr12 hg12
      go_wp2_with fail
      refine HC12.out.mono ?_
      rintro e w13 ⟨s13, v13, c13, n13, q13, rfl, hx13⟩
      have hx13 := hx13.keepG (World.grownBy_alloc w13 (.cells #[.int .i64 v13, .slice c13 n13 q13] 50) none)
      have HN13 := Lib.hid (fun W (hW : (w13.alloc (.cells #[.int .i64 v13, .slice c13 n13 q13] 50)).grownBy W none) => now_any w1.heap.size s13 W (hx13.keepG hW).at_)
      rw [hx13.hb] at HN13
      have X13 := Lib.hid hx13
      clear hx13 HC12 HS12 X10 V8 V4
      go_wp2_with fail
      refine (HN13.out _ (grown_reflT _ none)).mono ?_
      rintro e w14 ⟨⟨p14, rfl, _, hsn⟩, hg14⟩
      have HG14 := Lib.hid (((X13.out.keepG hg14).getNone (S := fun b => ¬ s13.M b) (w2 := (w14.alloc (.cells #[.int .i64 2, .int .i64 i, .string ⟨#[]⟩] 79)).alloc (.cells #[.int .i64 2, .int .i64 i, .string ⟨#[]⟩] 79)) (hsn.keep (.of ((World.grownBy_alloc _ _ none).trans (World.grownBy_alloc _ _ none)))) (some ⟨w14.heap.size + 1, 0, none⟩) i (by
          have hr1 := rw_one (w14.alloc (.cells #[.int .i64 2, .int .i64 i, .string ⟨#[]⟩] 79)) 79 (viV i) (fun j => True) trivial (show 0 ≤ maxLen from Nat.zero_le _)
          simp only [World.size_alloc] at hr1
          exact hr1.row) (by simp only [updX]; rw [if_neg (by omega), if_pos trivial])))
      have G14 := Lib.hid hg14
      clear hsn hg14
      go_wp2_with fail
      refine (HI.out _).mono ?_
      rintro e w15 ⟨rfl, rfl⟩
      unfold vi
      go_wp2_with fail
      refine HG14.out.mono ?_
      rintro e w16 ⟨rfl, hg16⟩
      have G16 := Lib.hid (G14.out.trans (((World.grownBy_alloc _ _ none).trans (World.grownBy_alloc _ _ none)).trans hg16))
      clear hg16 HG14 G14
      have GW := Lib.hid (X13.out.gr)
      have HCa := Lib.hid catalogX_any
      go_wp2_with fail
      go_region_with (first
        | (go_at_call 15; (with_reducible refine (HN13.out _ (grown_drewT G16.out)).mono ?_); rintro e w17 ⟨⟨p17, rfl, _, hsn⟩, hg17⟩; have G17 := Lib.hid ((grown_drewT G16.out).trans hg17); have HL17 := Lib.hid ((X13.out.keepG G17.out).len hsn); clear hsn hg17)
        | (go_at_call 31; (with_reducible refine HL17.out.mono ?_); rintro e w18 ⟨rfl, hg18⟩; have G18 := Lib.hid (G17.out.trans hg18); clear hg18)
        | (go_at_call 29; (with_reducible refine (HCa.out _).mono ?_); rintro e w19 ⟨⟨ca, ca', rfl, ht⟩, hg19⟩; have G19 := Lib.hid (G18.out.trans hg19); obtain ⟨cb, co, rfl, _, c0, c1, c2⟩ := ht.at (i := 0) Nat.zero_lt_one; have C19 := Lib.hid (ht.2.1 _ List.mem_cons_self); simp only [exTab, List.getD_cons_zero, Nat.zero_mul, Nat.add_zero] at c0 c1 c2 C19; rw [show exCols.length = 2 from rfl] at c1; clear ht hg19)
        | (go_at_call 30; (with_reducible refine (HP.out 1000 ⟨#[122]⟩ _ (by decide)).mono ?_); rintro e w20 ⟨⟨a20, rfl, hr20⟩, hg20⟩; have G20 := Lib.hid (G19.out.trans hg20); have d1 := hg20.cell c1 (by simp); have f1 := field_op2 1 ⟨#[116]⟩ a20 2 2 w20; have HR20 := Lib.hid (HRr.out ca' a20 w20 (C19.out.keep (.of hg20)).cols (vv_at hr20.row)); clear hr20 hg20)
        | (go_at_call 34; (with_reducible refine HR20.out.mono ?_); rintro e w21 ⟨rfl, hg21⟩; have G21 := Lib.hid (G20.out.trans hg21); clear hg21))
      all_goals
        go_wp2_with fail
        go_ret
        exact ⟨rfl, below_grownT (G1.out.trans (X13.out.gr.trans G21.out))⟩
end Go.Proofs.YtaggacffjbjchaaGreatDoor
namespace Go.Proofs.YtaggacffjbjchaaGreatDoor
open Go.RowKit

theorem holdsB_two {c : Cl} {v : Vv} (h : holdsB c v = true) : goodB v.k v.n v.s = true ∧ ((v.k != c.k) = false ∨ ((v.k != c.k) = true ∧ (v.k != 0) = false ∧ c.b = true)) := by
  unfold holdsB Vv.good at h
  simp only [Bool.and_eq_true, Bool.or_eq_true, decide_eq_true_eq] at h
  refine ⟨h.1, ?_⟩
  by_cases e : v.k = c.k
  · exact .inl (by simp [e])
  · obtain ⟨h1, h2⟩ := h.2.resolve_left e
    exact .inr ⟨by simpa using e, by simp [h1], h2⟩
set_option maxRecDepth 100000 in
set_option maxHeartbeats 6400000 in
theorem refRow6_fits (a ra : Option Addr) (cap rcap : Nat) (l : List Cl) (r : List Vv) (w : World) (h : ColsAt w.heap.size w a l) (hr : VvAt w.heap.size w ra r) (hcap : l.length ≤ cap) (hrc : r.length ≤ rcap) (hf : Fits l r) :
    Calls Tryz.prog 34 #[.slice a l.length cap, .slice ra r.length rcap] w fun e w' => e = .returned (.bool true) ∧ w.grownBy w' none := by
  have H := Lib.hid h
  have HR := Lib.hid hr
  have hlen := h.1
  have HF := Lib.hid hf.2
  have hl := hf.1
  obtain ⟨n, hn⟩ : ∃ n, n = l.length := ⟨_, rfl⟩
  have Hn := Lib.hid hn
  have Hl := Lib.hid hl
  rw [hl] at hrc
  rw [hl, ← hn]
  rw [← hn] at hlen hcap hrc
  clear h hr hl hn hf
  go_enter Tryz.func34, Tryz.ntmps34
  go_wp2_with fail
  go_loopw [13] (fun i wr => ∃ (k : Nat), i = .int .i64 k ∧ k ≤ n ∧ Hid (w.grownBy wr none)) (fun i _ => n - (intOf i).toNat)
  case atStart => exact ⟨0, rfl, by omega, Lib.hid (grown_refl6 _ _)⟩
  case round =>
    obtain ⟨k, rfl, hk, KR⟩ := hrel
    by_cases hlt : k < n
    · obtain ⟨b, off, rfl, _, c0, c1, c2⟩ := (H.out.keep KR.out (by simp)).at (i := k) (by rw [← Hn.out]; exact hlt)
      obtain ⟨b2, off2, rfl, hb2, v0, v1, v2⟩ := (HR.out.keep KR.out (by simp)).at (i := k) (by rw [Hl.out, ← Hn.out]; exact hlt)
      obtain ⟨hgd, hor⟩ := holdsB_two (HF.out k (by rw [← Hn.out]; exact hlt))
      generalize l.getD k default = x at *
      generalize r.getD k default = y at *
      obtain ⟨xn, xk, xb⟩ := x
      obtain ⟨yk, yn, ys⟩ := y
      simp only at c0 c1 c2 v0 v1 v2 hgd hor
      have HG := Lib.hid (fun W => refGood_any yk yn ys W)
      rw [hgd] at HG
      have j1 : (k : Int) ≤ cap := by omega
      have j2 : (k : Int) ≤ rcap := by omega
      have j3 : (k : Int) < n := by omega
      clear hgd
      have FS := Lib.hid (fun W (hW : wr.grownBy W none) => show (W.cell? ⟨b2, off2 + k * 3, none⟩ = some (.int .i64 yk) ∧ W.cell? ⟨b2, off2 + k * 3 + 1, none⟩ = some (.int .i64 yn) ∧ W.cell? ⟨b2, off2 + k * 3 + 2, none⟩ = some (.string ys)) ∧ W.cell? ⟨b, off + k * 3 + 1, none⟩ = some (.int .i64 xk) ∧ W.cell? ⟨b, off + k * 3 + 2, none⟩ = some (.bool xb) from ⟨⟨hW.cell v0 (by simp), hW.cell v1 (by simp), hW.cell v2 (by simp)⟩, hW.cell c1 (by simp), hW.cell c2 (by simp)⟩)
      clear c0 c1 c2 v0 v1 v2
      go_wp2_with fail
      rcases hor with he | ⟨he, he2, hb⟩
      · refine wp_region_held_drew (S := (fun W => (W.cell? ⟨b2, off2 + k * 3, none⟩ = some (.int .i64 yk) ∧ W.cell? ⟨b2, off2 + k * 3 + 1, none⟩ = some (.int .i64 yn) ∧ W.cell? ⟨b2, off2 + k * 3 + 2, none⟩ = some (.string ys)) ∧ W.cell? ⟨b, off + k * 3 + 1, none⟩ = some (.int .i64 xk) ∧ W.cell? ⟨b, off + k * 3 + 2, none⟩ = some (.bool xb))) (by kernel_rfl) (FS.out _ (grown_drew6 (grown_refl6 wr none))) (fun hHeld => ?_)
        refine wpAnyH_take (i := 0) (v := ?va0) rfl (by kernel_rfl) (by kernel_rfl) (by kernel_rfl) (fun _ _ _ h => h) (Or.inl ⟨by rfl, ?ya0⟩) (by assumption) ?ra0
        case ya0 => (intro w hSw; (try dsimp only at hSw); go_simp; try with_reducible rfl)
        simp only [Act.put, List.getElem_toArray, List.getElem_cons_zero, List.size_toArray, List.length_cons, List.length_nil, Nat.reduceAdd, Array.replicate, List.replicate, List.setIfInBounds_toArray, List.set_cons_zero, List.set_cons_succ]
        refine wpAnyH_take (i := 1) (v := ?va1) rfl (by kernel_rfl) (by kernel_rfl) (by kernel_rfl) (fun _ _ _ h => h) (Or.inl ⟨by rfl, ?ya1⟩) (by assumption) ?ra1
        case ya1 => (intro w hSw; (try dsimp only at hSw); go_simp; try with_reducible rfl)
        simp only [Act.put, List.getElem_toArray, List.getElem_cons_succ, List.getElem_cons_zero, List.setIfInBounds_toArray, List.set_cons_zero, List.set_cons_succ]
        refine wpAnyH_take (i := 2) (v := ?va2) rfl (by kernel_rfl) (by kernel_rfl) (by kernel_rfl) (fun _ _ _ h => h) (Or.inl ⟨by rfl, ?ya2⟩) (by assumption) ?ra2
        case ya2 => (intro w hSw; (try dsimp only at hSw); go_simp; try with_reducible rfl)
        simp only [Act.put, List.getElem_toArray, List.getElem_cons_succ, List.getElem_cons_zero, List.setIfInBounds_toArray, List.set_cons_zero, List.set_cons_succ]
        refine wpAnyH_take (i := 3) (v := ?va3) rfl (by kernel_rfl) (by kernel_rfl) (by kernel_rfl) (fun _ _ _ h => h) (Or.inl ⟨by rfl, ?ya3⟩) (by assumption) ?ra3
        case ya3 => (intro w hSw; (try dsimp only at hSw); go_simp; try with_reducible rfl)
        simp only [Act.put, List.getElem_toArray, List.getElem_cons_succ, List.getElem_cons_zero, List.setIfInBounds_toArray, List.set_cons_zero, List.set_cons_succ]
        refine wpAnyH_ready (rs := [4]) (by kernel_rfl) (by simp) ?_
        refine AllReadyH.cons rfl (fun K' hK => ?_) AllReadyH.nil
        go_simp
        go_at_call 56
        refine (HG.out _).mono ?_
        rintro e w4 ⟨rfl, hg4⟩
        have K4 := Lib.hid ((grown_drew6 (grown_refl6 wr none)).trans (grown_below6 hg4 none))
        clear hg4
        refine hK.out _ _ (FS.out _ K4.out) (fun hHeld => ?_)
        clear hK K'
        simp only [List.setIfInBounds_toArray, List.set_cons_zero, List.set_cons_succ]
        refine wpAnyH_take (i := 5) (v := ?va5) rfl (by kernel_rfl) (by kernel_rfl) (by kernel_rfl) (fun _ _ _ h => h) (Or.inl ⟨by rfl, ?ya5⟩) (by assumption) ?ra5
        case ya5 => (intro w hSw; (try dsimp only at hSw); go_simp; try with_reducible rfl)
        simp only [Act.put, List.getElem_toArray, List.getElem_cons_succ, List.getElem_cons_zero, List.setIfInBounds_toArray, List.set_cons_zero, List.set_cons_succ]
        refine wpAnyH_take (i := 6) (v := ?va6) rfl (by kernel_rfl) (by kernel_rfl) (by kernel_rfl) (fun _ _ _ h => h) (Or.inl ⟨by rfl, ?ya6⟩) (by assumption) ?ra6
        case ya6 => (intro w hSw; (try dsimp only at hSw); go_simp; try with_reducible rfl)
        simp only [Act.put, List.getElem_toArray, List.getElem_cons_succ, List.getElem_cons_zero, List.setIfInBounds_toArray, List.set_cons_zero, List.set_cons_succ]
        refine wpAnyH_take (i := 7) (v := ?va7) rfl (by kernel_rfl) (by kernel_rfl) (by kernel_rfl) (fun _ _ _ h => h) (Or.inl ⟨by rfl, ?ya7⟩) (by assumption) ?ra7
        case ya7 => (intro w hSw; (try dsimp only at hSw); go_simp; try with_reducible rfl)
        simp only [Act.put, List.getElem_toArray, List.getElem_cons_succ, List.getElem_cons_zero, List.setIfInBounds_toArray, List.set_cons_zero, List.set_cons_succ]
        refine wpAnyH_take (i := 8) (v := ?va8) rfl (by kernel_rfl) (by kernel_rfl) (by kernel_rfl) (fun _ _ _ h => h) (Or.inl ⟨by rfl, ?ya8⟩) (by assumption) ?ra8
        case ya8 => (intro w hSw; (try dsimp only at hSw); go_simp; try with_reducible rfl)
        simp only [Act.put, List.getElem_toArray, List.getElem_cons_succ, List.getElem_cons_zero, List.setIfInBounds_toArray, List.set_cons_zero, List.set_cons_succ]
        refine wpAnyH_take (i := 9) (v := ?va9) rfl (by kernel_rfl) (by kernel_rfl) (by kernel_rfl) (fun _ _ _ h => h) (Or.inl ⟨by rfl, ?ya9⟩) (by assumption) ?ra9
        case ya9 => (intro w hSw; (try dsimp only at hSw); go_simp; try with_reducible rfl)
        simp only [Act.put, List.getElem_toArray, List.getElem_cons_succ, List.getElem_cons_zero, List.setIfInBounds_toArray, List.set_cons_zero, List.set_cons_succ]
        refine wpAnyH_take (i := 10) (v := ?va10) rfl (by kernel_rfl) (by kernel_rfl) (by kernel_rfl) (fun _ _ _ h => h) (Or.inl ⟨by rfl, ?ya10⟩) (by assumption) ?ra10
        case ya10 => (intro w hSw; (try dsimp only at hSw); go_simp; try with_reducible rfl)
        simp only [Act.put, List.getElem_toArray, List.getElem_cons_succ, List.getElem_cons_zero, List.setIfInBounds_toArray, List.set_cons_zero, List.set_cons_succ]
        refine wpAnyH_take (i := 11) (v := ?va11) rfl (by kernel_rfl) (by kernel_rfl) (by kernel_rfl) (fun _ _ _ h => h) (Or.inl ⟨by rfl, ?ya11⟩) (by assumption) ?ra11
        case ya11 => (intro w hSw; (try dsimp only at hSw); go_simp; try with_reducible rfl)
        simp only [Act.put, List.getElem_toArray, List.getElem_cons_succ, List.getElem_cons_zero, List.setIfInBounds_toArray, List.set_cons_zero, List.set_cons_succ]
        refine wpAnyH_take (i := 12) (v := ?va12) rfl (by kernel_rfl) (by kernel_rfl) (by kernel_rfl) (fun _ _ _ h => h) (Or.inl ⟨by rfl, ?ya12⟩) (by assumption) ?ra12
        case ya12 => (intro w hSw; (try dsimp only at hSw); go_simp; try with_reducible rfl)
        simp only [Act.put, List.getElem_toArray, List.getElem_cons_succ, List.getElem_cons_zero, List.setIfInBounds_toArray, List.set_cons_zero, List.set_cons_succ]
        refine wpAnyH_take (i := 13) (v := ?va13) rfl (by kernel_rfl) (by kernel_rfl) (by kernel_rfl) (fun _ _ _ h => h) (Or.inl ⟨by rfl, ?ya13⟩) (by assumption) ?ra13
        case ya13 => (intro w hSw; (try dsimp only at hSw); go_simp; try with_reducible rfl)
        simp only [Act.put, List.getElem_toArray, List.getElem_cons_succ, List.getElem_cons_zero, List.setIfInBounds_toArray, List.set_cons_zero, List.set_cons_succ]
        refine wpAnyH_take (i := 14) (v := ?va14) rfl (by kernel_rfl) (by kernel_rfl) (by kernel_rfl) (fun _ _ _ h => h) (Or.inl ⟨by rfl, ?ya14⟩) (by assumption) ?ra14
        case ya14 => (intro w hSw; (try dsimp only at hSw); go_simp; try with_reducible rfl)
        simp only [Act.put, List.getElem_toArray, List.getElem_cons_succ, List.getElem_cons_zero, List.setIfInBounds_toArray, List.set_cons_zero, List.set_cons_succ]
        refine wpAnyH_take (i := 15) (v := ?va15) rfl (by kernel_rfl) (by kernel_rfl) (by kernel_rfl) (fun _ _ _ h => h) (Or.inl ⟨by rfl, ?ya15⟩) (by assumption) ?ra15
        case ya15 => (intro w hSw; (try dsimp only at hSw); go_simp; try with_reducible rfl)
        simp only [Act.put, List.getElem_toArray, List.getElem_cons_succ, List.getElem_cons_zero, List.setIfInBounds_toArray, List.set_cons_zero, List.set_cons_succ]
        refine wpAnyH_take (i := 16) (v := ?va16) rfl (by kernel_rfl) (by kernel_rfl) (by kernel_rfl) (fun _ _ _ h => h) (Or.inl ⟨by rfl, ?ya16⟩) (by assumption) ?ra16
        case ya16 => (intro w hSw; (try dsimp only at hSw); go_simp; try with_reducible rfl)
        simp only [Act.put, List.getElem_toArray, List.getElem_cons_succ, List.getElem_cons_zero, List.setIfInBounds_toArray, List.set_cons_zero, List.set_cons_succ]
        refine wpAnyH_take (i := 17) (v := ?va17) rfl (by kernel_rfl) (by kernel_rfl) (by kernel_rfl) (fun _ _ _ h => h) (Or.inl ⟨by rfl, ?ya17⟩) (by assumption) ?ra17
        case ya17 => (intro w hSw; (try dsimp only at hSw); go_simp; try with_reducible rfl)
        simp only [Act.put, List.getElem_toArray, List.getElem_cons_succ, List.getElem_cons_zero, List.setIfInBounds_toArray, List.set_cons_zero, List.set_cons_succ]
        refine wpAnyH_take (i := 18) (v := ?va18) rfl (by kernel_rfl) (by kernel_rfl) (by kernel_rfl) (fun _ _ _ h => h) (Or.inl ⟨by rfl, ?ya18⟩) (by assumption) ?ra18
        case ya18 => (intro w hSw; (try dsimp only at hSw); go_simp; try with_reducible rfl)
        simp only [Act.put, List.getElem_toArray, List.getElem_cons_succ, List.getElem_cons_zero, List.setIfInBounds_toArray, List.set_cons_zero, List.set_cons_succ]
        refine wpAnyH_take (i := 19) (v := undef) rfl (by kernel_rfl) (by kernel_rfl) (by kernel_rfl) (fun _ _ _ h => h) (Or.inr ⟨by rfl, rfl⟩) (by assumption) ?_
        simp only [Act.put, List.getElem_toArray, List.getElem_cons_succ, List.getElem_cons_zero, List.setIfInBounds_toArray, List.set_cons_zero, List.set_cons_succ]
        refine wpAnyH_take (i := 20) (v := undef) rfl (by kernel_rfl) (by kernel_rfl) (by kernel_rfl) (fun _ _ _ h => h) (Or.inr ⟨by rfl, rfl⟩) (by assumption) ?_
        simp only [Act.put, List.getElem_toArray, List.getElem_cons_succ, List.getElem_cons_zero, List.setIfInBounds_toArray, List.set_cons_zero, List.set_cons_succ]
        refine wpAnyH_take (i := 21) (v := undef) rfl (by kernel_rfl) (by kernel_rfl) (by kernel_rfl) (fun _ _ _ h => h) (Or.inr ⟨by rfl, rfl⟩) (by assumption) ?_
        simp only [Act.put, List.getElem_toArray, List.getElem_cons_succ, List.getElem_cons_zero, List.setIfInBounds_toArray, List.set_cons_zero, List.set_cons_succ]
        refine wpAnyH_take (i := 22) (v := undef) rfl (by kernel_rfl) (by kernel_rfl) (by kernel_rfl) (fun _ _ _ h => h) (Or.inr ⟨by rfl, rfl⟩) (by assumption) ?_
        simp only [Act.put, List.getElem_toArray, List.getElem_cons_succ, List.getElem_cons_zero, List.setIfInBounds_toArray, List.set_cons_zero, List.set_cons_succ]
        refine wpAnyH_take (i := 23) (v := undef) rfl (by kernel_rfl) (by kernel_rfl) (by kernel_rfl) (fun _ _ _ h => h) (Or.inr ⟨by rfl, rfl⟩) (by assumption) ?_
        simp only [Act.put, List.getElem_toArray, List.getElem_cons_succ, List.getElem_cons_zero, List.setIfInBounds_toArray, List.set_cons_zero, List.set_cons_succ]
        refine wpAnyH_take (i := 24) (v := undef) rfl (by kernel_rfl) (by kernel_rfl) (by kernel_rfl) (fun _ _ _ h => h) (Or.inr ⟨by rfl, rfl⟩) (by assumption) ?_
        simp only [Act.put, List.getElem_toArray, List.getElem_cons_succ, List.getElem_cons_zero, List.setIfInBounds_toArray, List.set_cons_zero, List.set_cons_succ]
        refine wpAnyH_take (i := 25) (v := undef) rfl (by kernel_rfl) (by kernel_rfl) (by kernel_rfl) (fun _ _ _ h => h) (Or.inr ⟨by rfl, rfl⟩) (by assumption) ?_
        simp only [Act.put, List.getElem_toArray, List.getElem_cons_succ, List.getElem_cons_zero, List.setIfInBounds_toArray, List.set_cons_zero, List.set_cons_succ]
        refine wpAnyH_take (i := 26) (v := undef) rfl (by kernel_rfl) (by kernel_rfl) (by kernel_rfl) (fun _ _ _ h => h) (Or.inr ⟨by rfl, rfl⟩) (by assumption) ?_
        simp only [Act.put, List.getElem_toArray, List.getElem_cons_succ, List.getElem_cons_zero, List.setIfInBounds_toArray, List.set_cons_zero, List.set_cons_succ]
        refine wpAnyH_take (i := 27) (v := undef) rfl (by kernel_rfl) (by kernel_rfl) (by kernel_rfl) (fun _ _ _ h => h) (Or.inr ⟨by rfl, rfl⟩) (by assumption) ?_
        simp only [Act.put, List.getElem_toArray, List.getElem_cons_succ, List.getElem_cons_zero, List.setIfInBounds_toArray, List.set_cons_zero, List.set_cons_succ]
        refine wpAnyH_take (i := 28) (v := undef) rfl (by kernel_rfl) (by kernel_rfl) (by kernel_rfl) (fun _ _ _ h => h) (Or.inr ⟨by rfl, rfl⟩) (by assumption) ?_
        simp only [Act.put, List.getElem_toArray, List.getElem_cons_succ, List.getElem_cons_zero, List.setIfInBounds_toArray, List.set_cons_zero, List.set_cons_succ]
        refine wpAnyH_take (i := 29) (v := undef) rfl (by kernel_rfl) (by kernel_rfl) (by kernel_rfl) (fun _ _ _ h => h) (Or.inr ⟨by rfl, rfl⟩) (by assumption) ?_
        simp only [Act.put, List.getElem_toArray, List.getElem_cons_succ, List.getElem_cons_zero, List.setIfInBounds_toArray, List.set_cons_zero, List.set_cons_succ]
        refine wpAnyH_take (i := 30) (v := undef) rfl (by kernel_rfl) (by kernel_rfl) (by kernel_rfl) (fun _ _ _ h => h) (Or.inr ⟨by rfl, rfl⟩) (by assumption) ?_
        simp only [Act.put, List.getElem_toArray, List.getElem_cons_succ, List.getElem_cons_zero, List.setIfInBounds_toArray, List.set_cons_zero, List.set_cons_succ]
        refine wpAnyH_take (i := 31) (v := undef) rfl (by kernel_rfl) (by kernel_rfl) (by kernel_rfl) (fun _ _ _ h => h) (Or.inr ⟨by rfl, rfl⟩) (by assumption) ?_
        simp only [Act.put, List.getElem_toArray, List.getElem_cons_succ, List.getElem_cons_zero, List.setIfInBounds_toArray, List.set_cons_zero, List.set_cons_succ]
        refine wpAnyH_take (i := 32) (v := undef) rfl (by kernel_rfl) (by kernel_rfl) (by kernel_rfl) (fun _ _ _ h => h) (Or.inr ⟨by rfl, rfl⟩) (by assumption) ?_
        simp only [Act.put, List.getElem_toArray, List.getElem_cons_succ, List.getElem_cons_zero, List.setIfInBounds_toArray, List.set_cons_zero, List.set_cons_succ]
        refine wpAnyH_take (i := 33) (v := ?va33) rfl (by kernel_rfl) (by kernel_rfl) (by kernel_rfl) (fun _ _ _ h => h) (Or.inl ⟨by rfl, ?ya33⟩) (by assumption) ?ra33
        case ya33 => (intro w hSw; (try dsimp only at hSw); go_simp; try with_reducible rfl)
        simp only [Act.put, List.getElem_toArray, List.getElem_cons_succ, List.getElem_cons_zero, List.setIfInBounds_toArray, List.set_cons_zero, List.set_cons_succ]
        refine wpAnyH_take (i := 34) (v := ?va34) rfl (by kernel_rfl) (by kernel_rfl) (by kernel_rfl) (fun _ _ _ h => h) (Or.inl ⟨by rfl, ?ya34⟩) (by assumption) ?ra34
        case ya34 => (intro w hSw; (try dsimp only at hSw); go_simp; try with_reducible rfl)
        simp only [Act.put, List.getElem_toArray, List.getElem_cons_succ, List.getElem_cons_zero, List.setIfInBounds_toArray, List.set_cons_zero, List.set_cons_succ]
        refine wpAnyH_done (by kernel_rfl) ?_ _
        go_wp2_with fail
        go_roundw
        case rel => exact ⟨k + 1, by go_num, by omega, Lib.hid (KR.out.trans K4.out)⟩
        case measure => simp [intOf]; omega
      · subst hb
        refine wp_region_held_drew (S := (fun W => (W.cell? ⟨b2, off2 + k * 3, none⟩ = some (.int .i64 yk) ∧ W.cell? ⟨b2, off2 + k * 3 + 1, none⟩ = some (.int .i64 yn) ∧ W.cell? ⟨b2, off2 + k * 3 + 2, none⟩ = some (.string ys)) ∧ W.cell? ⟨b, off + k * 3 + 1, none⟩ = some (.int .i64 xk) ∧ W.cell? ⟨b, off + k * 3 + 2, none⟩ = some (.bool true))) (by kernel_rfl) (FS.out _ (grown_drew6 (grown_refl6 wr none))) (fun hHeld => ?_)
        refine wpAnyH_take (i := 0) (v := ?vb0) rfl (by kernel_rfl) (by kernel_rfl) (by kernel_rfl) (fun _ _ _ h => h) (Or.inl ⟨by rfl, ?yb0⟩) (by assumption) ?rb0
        case yb0 => (intro w hSw; (try dsimp only at hSw); go_simp; try with_reducible rfl)
        simp only [Act.put, List.getElem_toArray, List.getElem_cons_zero, List.size_toArray, List.length_cons, List.length_nil, Nat.reduceAdd, Array.replicate, List.replicate, List.setIfInBounds_toArray, List.set_cons_zero, List.set_cons_succ]
        refine wpAnyH_take (i := 1) (v := ?vb1) rfl (by kernel_rfl) (by kernel_rfl) (by kernel_rfl) (fun _ _ _ h => h) (Or.inl ⟨by rfl, ?yb1⟩) (by assumption) ?rb1
        case yb1 => (intro w hSw; (try dsimp only at hSw); go_simp; try with_reducible rfl)
        simp only [Act.put, List.getElem_toArray, List.getElem_cons_succ, List.getElem_cons_zero, List.setIfInBounds_toArray, List.set_cons_zero, List.set_cons_succ]
        refine wpAnyH_take (i := 2) (v := ?vb2) rfl (by kernel_rfl) (by kernel_rfl) (by kernel_rfl) (fun _ _ _ h => h) (Or.inl ⟨by rfl, ?yb2⟩) (by assumption) ?rb2
        case yb2 => (intro w hSw; (try dsimp only at hSw); go_simp; try with_reducible rfl)
        simp only [Act.put, List.getElem_toArray, List.getElem_cons_succ, List.getElem_cons_zero, List.setIfInBounds_toArray, List.set_cons_zero, List.set_cons_succ]
        refine wpAnyH_take (i := 3) (v := ?vb3) rfl (by kernel_rfl) (by kernel_rfl) (by kernel_rfl) (fun _ _ _ h => h) (Or.inl ⟨by rfl, ?yb3⟩) (by assumption) ?rb3
        case yb3 => (intro w hSw; (try dsimp only at hSw); go_simp; try with_reducible rfl)
        simp only [Act.put, List.getElem_toArray, List.getElem_cons_succ, List.getElem_cons_zero, List.setIfInBounds_toArray, List.set_cons_zero, List.set_cons_succ]
        refine wpAnyH_ready (rs := [4]) (by kernel_rfl) (by simp) ?_
        refine AllReadyH.cons rfl (fun K' hK => ?_) AllReadyH.nil
        go_simp
        go_at_call 56
        refine (HG.out _).mono ?_
        rintro e w4 ⟨rfl, hg4⟩
        have K4 := Lib.hid ((grown_drew6 (grown_refl6 wr none)).trans (grown_below6 hg4 none))
        clear hg4
        refine hK.out _ _ (FS.out _ K4.out) (fun hHeld => ?_)
        clear hK K'
        simp only [List.setIfInBounds_toArray, List.set_cons_zero, List.set_cons_succ]
        refine wpAnyH_take (i := 5) (v := ?vb5) rfl (by kernel_rfl) (by kernel_rfl) (by kernel_rfl) (fun _ _ _ h => h) (Or.inl ⟨by rfl, ?yb5⟩) (by assumption) ?rb5
        case yb5 => (intro w hSw; (try dsimp only at hSw); go_simp; try with_reducible rfl)
        simp only [Act.put, List.getElem_toArray, List.getElem_cons_succ, List.getElem_cons_zero, List.setIfInBounds_toArray, List.set_cons_zero, List.set_cons_succ]
        refine wpAnyH_take (i := 6) (v := ?vb6) rfl (by kernel_rfl) (by kernel_rfl) (by kernel_rfl) (fun _ _ _ h => h) (Or.inl ⟨by rfl, ?yb6⟩) (by assumption) ?rb6
        case yb6 => (intro w hSw; (try dsimp only at hSw); go_simp; try with_reducible rfl)
        simp only [Act.put, List.getElem_toArray, List.getElem_cons_succ, List.getElem_cons_zero, List.setIfInBounds_toArray, List.set_cons_zero, List.set_cons_succ]
        refine wpAnyH_take (i := 7) (v := ?vb7) rfl (by kernel_rfl) (by kernel_rfl) (by kernel_rfl) (fun _ _ _ h => h) (Or.inl ⟨by rfl, ?yb7⟩) (by assumption) ?rb7
        case yb7 => (intro w hSw; (try dsimp only at hSw); go_simp; try with_reducible rfl)
        simp only [Act.put, List.getElem_toArray, List.getElem_cons_succ, List.getElem_cons_zero, List.setIfInBounds_toArray, List.set_cons_zero, List.set_cons_succ]
        refine wpAnyH_take (i := 8) (v := ?vb8) rfl (by kernel_rfl) (by kernel_rfl) (by kernel_rfl) (fun _ _ _ h => h) (Or.inl ⟨by rfl, ?yb8⟩) (by assumption) ?rb8
        case yb8 => (intro w hSw; (try dsimp only at hSw); go_simp; try with_reducible rfl)
        simp only [Act.put, List.getElem_toArray, List.getElem_cons_succ, List.getElem_cons_zero, List.setIfInBounds_toArray, List.set_cons_zero, List.set_cons_succ]
        refine wpAnyH_take (i := 9) (v := ?vb9) rfl (by kernel_rfl) (by kernel_rfl) (by kernel_rfl) (fun _ _ _ h => h) (Or.inl ⟨by rfl, ?yb9⟩) (by assumption) ?rb9
        case yb9 => (intro w hSw; (try dsimp only at hSw); go_simp; try with_reducible rfl)
        simp only [Act.put, List.getElem_toArray, List.getElem_cons_succ, List.getElem_cons_zero, List.setIfInBounds_toArray, List.set_cons_zero, List.set_cons_succ]
        refine wpAnyH_take (i := 10) (v := ?vb10) rfl (by kernel_rfl) (by kernel_rfl) (by kernel_rfl) (fun _ _ _ h => h) (Or.inl ⟨by rfl, ?yb10⟩) (by assumption) ?rb10
        case yb10 => (intro w hSw; (try dsimp only at hSw); go_simp; try with_reducible rfl)
        simp only [Act.put, List.getElem_toArray, List.getElem_cons_succ, List.getElem_cons_zero, List.setIfInBounds_toArray, List.set_cons_zero, List.set_cons_succ]
        refine wpAnyH_take (i := 11) (v := ?vb11) rfl (by kernel_rfl) (by kernel_rfl) (by kernel_rfl) (fun _ _ _ h => h) (Or.inl ⟨by rfl, ?yb11⟩) (by assumption) ?rb11
        case yb11 => (intro w hSw; (try dsimp only at hSw); go_simp; try with_reducible rfl)
        simp only [Act.put, List.getElem_toArray, List.getElem_cons_succ, List.getElem_cons_zero, List.setIfInBounds_toArray, List.set_cons_zero, List.set_cons_succ]
        refine wpAnyH_take (i := 12) (v := ?vb12) rfl (by kernel_rfl) (by kernel_rfl) (by kernel_rfl) (fun _ _ _ h => h) (Or.inl ⟨by rfl, ?yb12⟩) (by assumption) ?rb12
        case yb12 => (intro w hSw; (try dsimp only at hSw); go_simp; try with_reducible rfl)
        simp only [Act.put, List.getElem_toArray, List.getElem_cons_succ, List.getElem_cons_zero, List.setIfInBounds_toArray, List.set_cons_zero, List.set_cons_succ]
        refine wpAnyH_take (i := 13) (v := ?vb13) rfl (by kernel_rfl) (by kernel_rfl) (by kernel_rfl) (fun _ _ _ h => h) (Or.inl ⟨by rfl, ?yb13⟩) (by assumption) ?rb13
        case yb13 => (intro w hSw; (try dsimp only at hSw); go_simp; try with_reducible rfl)
        simp only [Act.put, List.getElem_toArray, List.getElem_cons_succ, List.getElem_cons_zero, List.setIfInBounds_toArray, List.set_cons_zero, List.set_cons_succ]
        refine wpAnyH_take (i := 14) (v := ?vb14) rfl (by kernel_rfl) (by kernel_rfl) (by kernel_rfl) (fun _ _ _ h => h) (Or.inl ⟨by rfl, ?yb14⟩) (by assumption) ?rb14
        case yb14 => (intro w hSw; (try dsimp only at hSw); go_simp; try with_reducible rfl)
        simp only [Act.put, List.getElem_toArray, List.getElem_cons_succ, List.getElem_cons_zero, List.setIfInBounds_toArray, List.set_cons_zero, List.set_cons_succ]
        refine wpAnyH_take (i := 15) (v := ?vb15) rfl (by kernel_rfl) (by kernel_rfl) (by kernel_rfl) (fun _ _ _ h => h) (Or.inl ⟨by rfl, ?yb15⟩) (by assumption) ?rb15
        case yb15 => (intro w hSw; (try dsimp only at hSw); go_simp; try with_reducible rfl)
        simp only [Act.put, List.getElem_toArray, List.getElem_cons_succ, List.getElem_cons_zero, List.setIfInBounds_toArray, List.set_cons_zero, List.set_cons_succ]
        refine wpAnyH_take (i := 16) (v := ?vb16) rfl (by kernel_rfl) (by kernel_rfl) (by kernel_rfl) (fun _ _ _ h => h) (Or.inl ⟨by rfl, ?yb16⟩) (by assumption) ?rb16
        case yb16 => (intro w hSw; (try dsimp only at hSw); go_simp; try with_reducible rfl)
        simp only [Act.put, List.getElem_toArray, List.getElem_cons_succ, List.getElem_cons_zero, List.setIfInBounds_toArray, List.set_cons_zero, List.set_cons_succ]
        refine wpAnyH_take (i := 17) (v := ?vb17) rfl (by kernel_rfl) (by kernel_rfl) (by kernel_rfl) (fun _ _ _ h => h) (Or.inl ⟨by rfl, ?yb17⟩) (by assumption) ?rb17
        case yb17 => (intro w hSw; (try dsimp only at hSw); go_simp; try with_reducible rfl)
        simp only [Act.put, List.getElem_toArray, List.getElem_cons_succ, List.getElem_cons_zero, List.setIfInBounds_toArray, List.set_cons_zero, List.set_cons_succ]
        refine wpAnyH_take (i := 18) (v := ?vb18) rfl (by kernel_rfl) (by kernel_rfl) (by kernel_rfl) (fun _ _ _ h => h) (Or.inl ⟨by rfl, ?yb18⟩) (by assumption) ?rb18
        case yb18 => (intro w hSw; (try dsimp only at hSw); go_simp; try with_reducible rfl)
        simp only [Act.put, List.getElem_toArray, List.getElem_cons_succ, List.getElem_cons_zero, List.setIfInBounds_toArray, List.set_cons_zero, List.set_cons_succ]
        refine wpAnyH_take (i := 19) (v := ?vb19) rfl (by kernel_rfl) (by kernel_rfl) (by kernel_rfl) (fun _ _ _ h => h) (Or.inl ⟨by rfl, ?yb19⟩) (by assumption) ?rb19
        case yb19 => (intro w hSw; (try dsimp only at hSw); go_simp; try with_reducible rfl)
        simp only [Act.put, List.getElem_toArray, List.getElem_cons_succ, List.getElem_cons_zero, List.setIfInBounds_toArray, List.set_cons_zero, List.set_cons_succ]
        refine wpAnyH_take (i := 20) (v := ?vb20) rfl (by kernel_rfl) (by kernel_rfl) (by kernel_rfl) (fun _ _ _ h => h) (Or.inl ⟨by rfl, ?yb20⟩) (by assumption) ?rb20
        case yb20 => (intro w hSw; (try dsimp only at hSw); go_simp; try with_reducible rfl)
        simp only [Act.put, List.getElem_toArray, List.getElem_cons_succ, List.getElem_cons_zero, List.setIfInBounds_toArray, List.set_cons_zero, List.set_cons_succ]
        refine wpAnyH_take (i := 21) (v := ?vb21) rfl (by kernel_rfl) (by kernel_rfl) (by kernel_rfl) (fun _ _ _ h => h) (Or.inl ⟨by rfl, ?yb21⟩) (by assumption) ?rb21
        case yb21 => (intro w hSw; (try dsimp only at hSw); go_simp; try with_reducible rfl)
        simp only [Act.put, List.getElem_toArray, List.getElem_cons_succ, List.getElem_cons_zero, List.setIfInBounds_toArray, List.set_cons_zero, List.set_cons_succ]
        refine wpAnyH_take (i := 22) (v := ?vb22) rfl (by kernel_rfl) (by kernel_rfl) (by kernel_rfl) (fun _ _ _ h => h) (Or.inl ⟨by rfl, ?yb22⟩) (by assumption) ?rb22
        case yb22 => (intro w hSw; (try dsimp only at hSw); go_simp; try with_reducible rfl)
        simp only [Act.put, List.getElem_toArray, List.getElem_cons_succ, List.getElem_cons_zero, List.setIfInBounds_toArray, List.set_cons_zero, List.set_cons_succ]
        refine wpAnyH_take (i := 23) (v := ?vb23) rfl (by kernel_rfl) (by kernel_rfl) (by kernel_rfl) (fun _ _ _ h => h) (Or.inl ⟨by rfl, ?yb23⟩) (by assumption) ?rb23
        case yb23 => (intro w hSw; (try dsimp only at hSw); go_simp; try with_reducible rfl)
        simp only [Act.put, List.getElem_toArray, List.getElem_cons_succ, List.getElem_cons_zero, List.setIfInBounds_toArray, List.set_cons_zero, List.set_cons_succ]
        refine wpAnyH_take (i := 24) (v := ?vb24) rfl (by kernel_rfl) (by kernel_rfl) (by kernel_rfl) (fun _ _ _ h => h) (Or.inl ⟨by rfl, ?yb24⟩) (by assumption) ?rb24
        case yb24 => (intro w hSw; (try dsimp only at hSw); go_simp; try with_reducible rfl)
        simp only [Act.put, List.getElem_toArray, List.getElem_cons_succ, List.getElem_cons_zero, List.setIfInBounds_toArray, List.set_cons_zero, List.set_cons_succ]
        refine wpAnyH_take (i := 25) (v := ?vb25) rfl (by kernel_rfl) (by kernel_rfl) (by kernel_rfl) (fun _ _ _ h => h) (Or.inl ⟨by rfl, ?yb25⟩) (by assumption) ?rb25
        case yb25 => (intro w hSw; (try dsimp only at hSw); go_simp; try with_reducible rfl)
        simp only [Act.put, List.getElem_toArray, List.getElem_cons_succ, List.getElem_cons_zero, List.setIfInBounds_toArray, List.set_cons_zero, List.set_cons_succ]
        refine wpAnyH_take (i := 26) (v := ?vb26) rfl (by kernel_rfl) (by kernel_rfl) (by kernel_rfl) (fun _ _ _ h => h) (Or.inl ⟨by rfl, ?yb26⟩) (by assumption) ?rb26
        case yb26 => (intro w hSw; (try dsimp only at hSw); go_simp; try with_reducible rfl)
        simp only [Act.put, List.getElem_toArray, List.getElem_cons_succ, List.getElem_cons_zero, List.setIfInBounds_toArray, List.set_cons_zero, List.set_cons_succ]
        refine wpAnyH_take (i := 27) (v := ?vb27) rfl (by kernel_rfl) (by kernel_rfl) (by kernel_rfl) (fun _ _ _ h => h) (Or.inl ⟨by rfl, ?yb27⟩) (by assumption) ?rb27
        case yb27 => (intro w hSw; (try dsimp only at hSw); go_simp; try with_reducible rfl)
        simp only [Act.put, List.getElem_toArray, List.getElem_cons_succ, List.getElem_cons_zero, List.setIfInBounds_toArray, List.set_cons_zero, List.set_cons_succ]
        refine wpAnyH_take (i := 28) (v := ?vb28) rfl (by kernel_rfl) (by kernel_rfl) (by kernel_rfl) (fun _ _ _ h => h) (Or.inl ⟨by rfl, ?yb28⟩) (by assumption) ?rb28
        case yb28 => (intro w hSw; (try dsimp only at hSw); go_simp; try with_reducible rfl)
        simp only [Act.put, List.getElem_toArray, List.getElem_cons_succ, List.getElem_cons_zero, List.setIfInBounds_toArray, List.set_cons_zero, List.set_cons_succ]
        refine wpAnyH_take (i := 29) (v := ?vb29) rfl (by kernel_rfl) (by kernel_rfl) (by kernel_rfl) (fun _ _ _ h => h) (Or.inl ⟨by rfl, ?yb29⟩) (by assumption) ?rb29
        case yb29 => (intro w hSw; (try dsimp only at hSw); go_simp; try with_reducible rfl)
        simp only [Act.put, List.getElem_toArray, List.getElem_cons_succ, List.getElem_cons_zero, List.setIfInBounds_toArray, List.set_cons_zero, List.set_cons_succ]
        refine wpAnyH_take (i := 30) (v := ?vb30) rfl (by kernel_rfl) (by kernel_rfl) (by kernel_rfl) (fun _ _ _ h => h) (Or.inl ⟨by rfl, ?yb30⟩) (by assumption) ?rb30
        case yb30 => (intro w hSw; (try dsimp only at hSw); go_simp; try with_reducible rfl)
        simp only [Act.put, List.getElem_toArray, List.getElem_cons_succ, List.getElem_cons_zero, List.setIfInBounds_toArray, List.set_cons_zero, List.set_cons_succ]
        refine wpAnyH_take (i := 31) (v := ?vb31) rfl (by kernel_rfl) (by kernel_rfl) (by kernel_rfl) (fun _ _ _ h => h) (Or.inl ⟨by rfl, ?yb31⟩) (by assumption) ?rb31
        case yb31 => (intro w hSw; (try dsimp only at hSw); go_simp; try with_reducible rfl)
        simp only [Act.put, List.getElem_toArray, List.getElem_cons_succ, List.getElem_cons_zero, List.setIfInBounds_toArray, List.set_cons_zero, List.set_cons_succ]
        refine wpAnyH_take (i := 32) (v := ?vb32) rfl (by kernel_rfl) (by kernel_rfl) (by kernel_rfl) (fun _ _ _ h => h) (Or.inl ⟨by rfl, ?yb32⟩) (by assumption) ?rb32
        case yb32 => (intro w hSw; (try dsimp only at hSw); go_simp; try with_reducible rfl)
        simp only [Act.put, List.getElem_toArray, List.getElem_cons_succ, List.getElem_cons_zero, List.setIfInBounds_toArray, List.set_cons_zero, List.set_cons_succ]
        refine wpAnyH_take (i := 33) (v := ?vb33) rfl (by kernel_rfl) (by kernel_rfl) (by kernel_rfl) (fun _ _ _ h => h) (Or.inl ⟨by rfl, ?yb33⟩) (by assumption) ?rb33
        case yb33 => (intro w hSw; (try dsimp only at hSw); go_simp; try with_reducible rfl)
        simp only [Act.put, List.getElem_toArray, List.getElem_cons_succ, List.getElem_cons_zero, List.setIfInBounds_toArray, List.set_cons_zero, List.set_cons_succ]
        refine wpAnyH_take (i := 34) (v := ?vb34) rfl (by kernel_rfl) (by kernel_rfl) (by kernel_rfl) (fun _ _ _ h => h) (Or.inl ⟨by rfl, ?yb34⟩) (by assumption) ?rb34
        case yb34 => (intro w hSw; (try dsimp only at hSw); go_simp; try with_reducible rfl)
        simp only [Act.put, List.getElem_toArray, List.getElem_cons_succ, List.getElem_cons_zero, List.setIfInBounds_toArray, List.set_cons_zero, List.set_cons_succ]
        refine wpAnyH_done (by kernel_rfl) ?_ _
        go_wp2_with fail
        go_roundw
        case rel => exact ⟨k + 1, by go_num, by omega, Lib.hid (KR.out.trans K4.out)⟩
        case measure => simp [intOf]; omega
    · obtain rfl : k = n := by omega
      go_wp2_with fail
      go_ret
      exact ⟨rfl, KR.out⟩
end Go.Proofs.YtaggacffjbjchaaGreatDoor
namespace Go.Proofs.YtaggacffjbjchaaGreatDoor
open Go.RowKit

theorem StoreFull_any (G : Nat) (n again : Int) (w : World) (hn0 : 0 ≤ n) (hn1 : n ≤ 255) (hw : WhyG w) (hE : ErrT G w) (hG : G ≤ w.heap.size) :
    Calls Tryz.prog 7 #[.int .u8 n, .int .i64 again] w fun e w' => e = .returned (.bool true) ∧ Below w.heap.size w w' :=
  StoreFull_gen G n again w (Lib.hid (fun a ra W h hr => refRow6_fits a ra 2 2 exCols ((rX 1000 ⟨#[122]⟩).map vvOf) W h hr (Nat.le_refl 2) (Nat.le_refl 2) (fits_put 1000 ⟨#[122]⟩ (by decide)))) hn0 hn1 hw hE hG
end Go.Proofs.YtaggacffjbjchaaGreatDoor
namespace Go.Proofs.YtaggacffjbjchaaGreatDoor
open Go.ChangeShapes Go.WideShapes Go.ChangeAt Go.RowKit Go.Joins
open Go.ChangeMaps (open_string shut_string)

set_option maxRecDepth 100000 in
theorem storeFull_lifted (os : Os) (started : os.Started) (H : Type) (enc : TypeId × Value → H) :
    ReturnsInHanded {} Tryz.checked os 7 .any (fun w args => (Rows.storeFullSpec.pre enc Tryz.prog Tryz.f7 [] false w args ∧ laidMetH Tryz.prog laid9s w) ∧ sizedMet enc Tryz.prog Tryz.f7 (OpenSpec.ofChange Rows.storeFullSpec) false w args)
      (Rows.storeFullSpec.post enc Tryz.prog Tryz.f7 false true false false) := by
  refine returnsInHanded_of_change_and (C := Tryz.checked) (X := fun w _ => laidMetH Tryz.prog laid9s w) (fun _ _ _ hh h => h.of_heap hh) own started (by kernel_rfl) Tryz.func7
    (ChangeSpec.witness_shaped (enc := enc) (C := Tryz.checked) (os := os) (X := fun w _ => laidMetH Tryz.prog laid9s w) false (World.doorLaid Tryz.prog 400 os) #[.int .u8 0, .int .i64 0] 8 rfl (World.shaped_of_RefB (by kernel_rfl) (by kernel_rfl)) (by kernel_rfl) (by kernel_rfl) (by kernel_rfl) (door_met9s os _)) ?_
  intro W base args ds gs before hval0 hW _ _ hL _
  have hval : ∀ (j : Nat) t v, Tryz.f7.params[j]? = some t → args[j]? = some v → Value.okWide Tryz.prog W .any base t v := hval0
  have hW' := hW
  obtain ⟨p, q, hA0, hV, rfl, hfz, hnd⟩ := hW
  have hA : DataW.TrodAll enc Tryz.prog W 0 (fun _ => true) true Tryz.f7.params.toList args.toList ds p := hA0
  rw [Tryz.params7] at hA hval
  obtain ⟨v0, v1, d0, d1, p0, p1, rfl, rfl, rfl, h0, h1⟩ := trodAll_two hA
  obtain ⟨rfl, rfl⟩ := trodVars_none hV
  obtain ⟨n0, rfl, rfl, rfl, wn0⟩ := open_int Tryz.underlying5 (hval 0 5 v0 rfl rfl) h0
  have b0 : 0 ≤ n0 := by
    have h := wn0
    simp [Lit.wf, IntKind.min, IntKind.signed] at h
    omega
  have e0 : n0 ≤ 255 := by
    have h := wn0
    simp [Lit.wf, IntKind.min, IntKind.max, IntKind.signed, IntKind.bits] at h
    omega
  obtain ⟨n1, rfl, rfl, rfl, wn1⟩ := open_int Tryz.underlying3 (hval 1 3 v1 rfl rfl) h1
  clear hA0 hval0
  simp only [List.append_nil] at hW'
  refine (StoreFull_any W.heap.size n0 n1 W b0 e0 (whyG_of9s hL) (errT_of9s hL) (Nat.le_refl _)).mono fun e W' ⟨he, hb⟩ => ?_
  subst he
  exact ⟨_, rfl, _, _, _, [], _, [], hW', trodAll_mk1 (shut_bool Tryz.underlying4 _), trodAll_mk2 (shut_int Tryz.underlying5 wn0) (shut_int Tryz.underlying3 wn1), rfl, hb.frame _, fun h => by cases h⟩

theorem storeFull_holds : Rows.StoreFullSaid :=
  OpenClaim.holds_of_wide 7 Tryz.f7 rfl rfl rfl rfl rfl rfl rfl ⟨rfl, rfl, rfl, rfl, rfl⟩ rfl rfl rfl rfl rfl (by kernel_rfl) Tryz.func7 (by kernel_rfl)
    (of_decide_eq_true (by kernel_rfl)) (by unfold Func.isWrapper; first | (rw [if_pos (by decide +kernel)]; kernel_rfl) | (rw [if_neg (by decide +kernel)]; exact ⟨rfl, rfl⟩))
    (fun os started H enc _ => storeFull_lifted os started H enc)

theorem storeFull_card : Rows.StoreFullCardSaid :=
  Claim7.holds_tied_plain_at .later [] [.handle, .sentinel, .sentinel, .sentinel, .sentinel, .sentinel, .sentinel, .sentinel, .sentinel] true Rows.storeFullCard.stood.harness true
    storeFull_holds (fun _ h => by cases h) (by kernel_rfl) (fun _ h => by cases h) storeFull_row_tie rfl ⟨rfl, rfl⟩ (by kernel_rfl) rfl
    (fun f fn hf hfn => by
      obtain rfl : f = 7 := Option.some.inj ((show Tryz.prog.funcNamed "stillroom/stillroomlaw09.StoreFull" = some 7 by kernel_rfl).symm.trans hf) |>.symm
      obtain rfl : fn = Tryz.f7 := (Option.some.inj (Tryz.func7.symm.trans hfn)).symm
      exact ⟨by kernel_rfl, fun j t ht => by
        rw [Tryz.params7] at ht
        have hm : t ∈ [5, 3] := by simpa using Array.mem_of_getElem? ht
        have hall : ([5, 3].all fun u => !Tryz.prog.wantsStandIn u) = true := by kernel_rfl
        exact (show Tryz.prog.wantsStandIn t = false by simpa using List.all_eq_true.1 hall t hm)⟩)
    (by kernel_rfl)
#print axioms storeFull_card
end Go.Proofs.YtaggacffjbjchaaGreatDoor
