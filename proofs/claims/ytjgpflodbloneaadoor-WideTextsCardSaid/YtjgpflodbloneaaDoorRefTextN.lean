/- The document's Text walked below 0. -/
import Derived.Test.YtjgpflodbloneaaDoorRefTextW
namespace Go.Proofs.YtjgpflodbloneaaDoor
open Go.RowKit

set_option maxRecDepth 100000 in
set_option maxHeartbeats 6400000 in
theorem refText_neg (x : BitVec 128) (w : World) (hb : x.getLsbD 127 = true) (x' : BitVec 128) (hx' : x' = -x) (hN : (Lib.decDigits x'.toNat).length ≤ 128) :
    Calls Tryd.prog 7 #[.agg (wArr x)] w fun e w' => e = .returned (.string ⟨(45 :: Lib.decDigits x'.toNat).toArray⟩) ∧ Below w.heap.size w w' := by
  have B0 := Lib.hid (BArr.new w (fun i => x.getLsbD i))
  have K0 := Lib.hid ((Below.refl w.heap.size w).alloc (Nat.le_refl _) (.cells (fArr fun i => x.getLsbD i) 29))
  have HNn := Lib.hid hN
  obtain ⟨w0, hw0⟩ : ∃ w0, w0 = w.alloc (.cells (wArr x) 29) := ⟨_, rfl⟩
  have c127 : (w.alloc (.cells (wArr x) 29)).cell? ⟨w.heap.size, 127, none⟩ = some (.bool true) := by rw [← hb]; exact B0.out.cell (i := 127) (by omega)
  have HNeg := Lib.hid (fun w => refNeg_any x w)
  rw [← hx'] at HNeg
  clear hN hb hw0 hx'
  go_enter Tryd.func7, Tryd.ntmps7
  go_wp2_with (refine wpList_load_row rfl 29 _ rfl w.heap.size rfl 29 (fArr fun i => x.getLsbD i) (0, 0) _ B0.out Tryd.underlying29 rfl (by rw [fArr_size]; kernel_rfl) ?_)
  refine (HNeg.out _).mono ?_
  rintro e w1 ⟨rfl, hb1⟩
  have B1 := Lib.hid (B0.out.keep hb1)
  have K1 := Lib.hid (K0.out.trans (hb1.mono K0.out.size))
  clear hb1
  go_wp2_with (refine wpList_store_row rfl 29 _ _ rfl w.heap.size (fArr fun i => x'.getLsbD i) rfl rfl 29 (fArr fun i => x.getLsbD i) B1.out (by rw [fArr_size]; kernel_rfl) (by rw [fArr_size, fArr_size]) (fArr_one _) ?_)
  have BZ := Lib.hid (show BArr (w1.setRow w.heap.size (fArr fun i => x'.getLsbD i)) w.heap.size (fun i => x'.getLsbD i) from setRow_heap w1 w.heap.size (fArr fun i => x.getLsbD i) (fArr fun i => x'.getLsbD i) _ (0, 0) B1.out)
  have KZ := Lib.hid (below_setRow (cs := fArr fun i => x'.getLsbD i) K1.out (Nat.le_refl _))
  clear c127
  go_loopw [4] (fun s wr => ∃ (y : BitVec 128) (t : List UInt8), s = .string ⟨t.toArray⟩ ∧ t.length ≤ 128 ∧ Hid (Laid x'.toNat x' y t) ∧ Hid (Below w.heap.size w wr) ∧ Hid (BArr wr w.heap.size (fun i => y.getLsbD i))) (fun s _ => 200 - sl s)
  case atStart => exact ⟨x', [], rfl, by simp, Lib.hid (.inl ⟨rfl, rfl⟩), KZ, BZ⟩
  case round =>
    obtain ⟨y, t, rfl, hl, L, K, BB⟩ := hrel
    obtain ⟨d, z, ds, hd, EZ, HT, HD⟩ := tenth_step y
    by_cases h0 : t = [] ∨ y ≠ 0#128
    · have LZ := Lib.hid (laid_step L.out h0)
      have LN : (ds ++ t).length ≤ 128 := by have := laid_len LZ.out HNn.out; rw [EZ.out.2.1]; exact this
      by_cases ht : t = []
      · subst ht
        go_wp2_with (refine wpList_load_row rfl 29 _ rfl w.heap.size rfl 29 (fArr fun i => y.getLsbD i) (0, 0) _ BB.out Tryd.underlying29 rfl (by rw [fArr_size]; kernel_rfl) ?_)
        refine (HT.out _).mono ?_
        rintro e w2 ⟨rfl, hb2⟩
        have B2 := Lib.hid (BB.out.keep hb2)
        have K2 := Lib.hid (K.out.trans (hb2.mono K.out.size))
        clear hb2
        go_wp2_with (refine wpList_store_row rfl 29 _ _ rfl w.heap.size (fArr fun i => z.getLsbD i) rfl rfl 29 (fArr fun i => y.getLsbD i) B2.out (by rw [fArr_size]; kernel_rfl) (by rw [fArr_size, fArr_size]) (fArr_one _) ?_)
        have B3 := Lib.hid (show BArr (w2.setRow w.heap.size (fArr fun i => z.getLsbD i)) w.heap.size (fun i => z.getLsbD i) from setRow_heap w2 w.heap.size (fArr fun i => y.getLsbD i) (fArr fun i => z.getLsbD i) _ (0, 0) B2.out)
        have K3 := Lib.hid (below_setRow (cs := fArr fun i => z.getLsbD i) K2.out (Nat.le_refl _))
        refine (HD.out _).mono ?_
        rintro e w4 ⟨rfl, hb4⟩
        have hds : ds.length ≤ 1 := by have := EZ.out.2.2; omega
        have B4 := Lib.hid (B3.out.keep hb4)
        have K4 := Lib.hid (K3.out.trans (hb4.mono K3.out.size))
        clear hb4
        go_wp2_with fail
        go_roundw
        case rel => exact ⟨z, ds ++ [], congrArg Value.string (cat_bytes ds []), LN, Lib.hid (by rw [EZ.out.1, EZ.out.2.1]; exact LZ.out), K4, B4⟩
        case measure => have e1 := EZ.out.2.2; have e2 := cat_sl ds []; have e3 := one_sl []; simp only [List.length_nil] at e2 e3; rw [e2, e3]; omega
      · have hy : y ≠ 0#128 := by rcases h0 with h0 | h0; exact absurd h0 ht; exact h0
        have HE : ∀ w, (Op.equalIn 10000 29 (.agg (fArr fun i => y.getLsbD i)) (.agg Tryd.zeroCells29)).run Tryd.prog w = .ok false w := fun w => by
          have := wide_equal y 0#128 w
          rw [decide_eq_false hy] at this
          rw [wZero, fArr_zero]
          exact this
        clear h0
        have hne : t.isEmpty = false := by
          cases t with
          | nil => exact absurd rfl ht
          | cons a l => rfl
        go_wp2_with fail
        refine wp_load_row 29 _ rfl w.heap.size rfl 29 (fArr fun i => y.getLsbD i) (0, 0) _ BB.out Tryd.underlying29 rfl (by rw [fArr_size]; kernel_rfl) ?_
        go_wp2_with (refine wpList_load_row rfl 29 _ rfl w.heap.size rfl 29 (fArr fun i => y.getLsbD i) (0, 0) _ BB.out Tryd.underlying29 rfl (by rw [fArr_size]; kernel_rfl) ?_)
        refine (HT.out _).mono ?_
        rintro e w2 ⟨rfl, hb2⟩
        have B2 := Lib.hid (BB.out.keep hb2)
        have K2 := Lib.hid (K.out.trans (hb2.mono K.out.size))
        clear hb2
        go_wp2_with (refine wpList_store_row rfl 29 _ _ rfl w.heap.size (fArr fun i => z.getLsbD i) rfl rfl 29 (fArr fun i => y.getLsbD i) B2.out (by rw [fArr_size]; kernel_rfl) (by rw [fArr_size, fArr_size]) (fArr_one _) ?_)
        have B3 := Lib.hid (show BArr (w2.setRow w.heap.size (fArr fun i => z.getLsbD i)) w.heap.size (fun i => z.getLsbD i) from setRow_heap w2 w.heap.size (fArr fun i => y.getLsbD i) (fArr fun i => z.getLsbD i) _ (0, 0) B2.out)
        have K3 := Lib.hid (below_setRow (cs := fArr fun i => z.getLsbD i) K2.out (Nat.le_refl _))
        refine (HD.out _).mono ?_
        rintro e w4 ⟨rfl, hb4⟩
        have hds : ds.length ≤ 1 := by have := EZ.out.2.2; omega
        have B4 := Lib.hid (B3.out.keep hb4)
        have K4 := Lib.hid (K3.out.trans (hb4.mono K3.out.size))
        clear hb4
        go_wp2_with fail
        go_roundw
        case rel => exact ⟨z, ds ++ t, congrArg Value.string (cat_bytes ds t), LN, Lib.hid (by rw [EZ.out.1, EZ.out.2.1]; exact LZ.out), K4, B4⟩
        case measure => have e1 := EZ.out.2.2; have e2 := cat_sl ds t; have e3 := one_sl t; have e4 : ds.length + t.length ≤ 128 := by rw [List.length_append] at LN; exact LN
                        rw [e2, e3]; omega
    · obtain ⟨ht, hy⟩ : t ≠ [] ∧ y = 0#128 := ⟨fun h => h0 (.inl h), Classical.byContradiction fun h => h0 (.inr h)⟩
      have hne : t.isEmpty = false := by
        cases t with
        | nil => exact absurd rfl ht
        | cons a l => rfl
      have ET : Hid (t = Lib.decDigits x'.toNat) := by
        rcases L.out with ⟨h, _⟩ | ⟨_, h, _⟩
        · exact absurd h ht
        · exact Lib.hid (h hy)
      have HE : ∀ w, (Op.equalIn 10000 29 (.agg (fArr fun i => y.getLsbD i)) (.agg Tryd.zeroCells29)).run Tryd.prog w = .ok true w := fun w => by
        have := wide_equal y 0#128 w
        rw [decide_eq_true hy] at this
        rw [wZero, fArr_zero]
        exact this
      clear h0 hy
      go_wp2_with fail
      refine wp_load_row 29 _ rfl w.heap.size rfl 29 (fArr fun i => y.getLsbD i) (0, 0) _ BB.out Tryd.underlying29 rfl (by rw [fArr_size]; kernel_rfl) ?_
      go_wp2_with fail
      go_ret
      exact ⟨ret_bytes (by rw [← ET.out]; simp), K.out⟩
end Go.Proofs.YtjgpflodbloneaaDoor
