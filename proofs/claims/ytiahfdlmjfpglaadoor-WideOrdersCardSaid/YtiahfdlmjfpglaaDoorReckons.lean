/- The law WideReckons, its first half walked: two rows of bits are made. -/
import Derived.Test.YtiahfdlmjfpglaaDoorAwake3
import Derived.Test.YtiahfdlmjfpglaaDoorRefNeg
import Derived.Test.YtiahfdlmjfpglaaDoorRefCmp
import Derived.Test.YtiahfdlmjfpglaaDoorWEq
import Derived.Deep.DeepCutAuto
namespace Go.Proofs.YtiahfdlmjfpglaaDoor
open Go.RowKit

theorem box4_keep {w w1 : World} {g g' : Nat} {v0 v1 v2 v3 : Value} (h : w.cell? ⟨g, 0, none⟩ = some v0 ∧ w.cell? ⟨g, 1, none⟩ = some v1 ∧ w.cell? ⟨g', 0, none⟩ = some v2 ∧ w.cell? ⟨g', 1, none⟩ = some v3) (hb : Below w.heap.size w w1) : w1.cell? ⟨g, 0, none⟩ = some v0 ∧ w1.cell? ⟨g, 1, none⟩ = some v1 ∧ w1.cell? ⟨g', 0, none⟩ = some v2 ∧ w1.cell? ⟨g', 1, none⟩ = some v3 := by
  have a := box2_keep ⟨h.1, h.2.1⟩ hb
  have b := box2_keep h.2.2 hb
  exact ⟨a.1, a.2, b.1, b.2⟩
theorem box4_new (w : World) (v0 v1 v2 v3 : Value) (T : TypeId) : ((w.alloc (.cells #[v0, v1] T)).alloc (.cells #[v2, v3] T)).cell? ⟨w.heap.size, 0, none⟩ = some v0 ∧ ((w.alloc (.cells #[v0, v1] T)).alloc (.cells #[v2, v3] T)).cell? ⟨w.heap.size, 1, none⟩ = some v1 ∧ ((w.alloc (.cells #[v0, v1] T)).alloc (.cells #[v2, v3] T)).cell? ⟨w.heap.size + 1, 0, none⟩ = some v2 ∧ ((w.alloc (.cells #[v0, v1] T)).alloc (.cells #[v2, v3] T)).cell? ⟨w.heap.size + 1, 1, none⟩ = some v3 := by
  have a := box2_keep (box2_new w v0 v1 T) ((Below.refl (w.alloc (.cells #[v0, v1] T)).heap.size _).alloc (Nat.le_refl _) (.cells #[v2, v3] T))
  have b := box2_new (w.alloc (.cells #[v0, v1] T)) v2 v3 T
  simp only [World.size_alloc] at b
  exact ⟨a.1, a.2, b.1, b.2⟩
theorem box4_cells {w : World} {g g' : Nat} {v0 v1 v2 v3 : Value} (h : w.cell? ⟨g, 0, none⟩ = some v0 ∧ w.cell? ⟨g, 1, none⟩ = some v1 ∧ w.cell? ⟨g', 0, none⟩ = some v2 ∧ w.cell? ⟨g', 1, none⟩ = some v3) (b : Nat) (l : List Value) (n1 : g ≠ b) (n2 : g' ≠ b) : (w.setCells b 0 l).cell? ⟨g, 0, none⟩ = some v0 ∧ (w.setCells b 0 l).cell? ⟨g, 1, none⟩ = some v1 ∧ (w.setCells b 0 l).cell? ⟨g', 0, none⟩ = some v2 ∧ (w.setCells b 0 l).cell? ⟨g', 1, none⟩ = some v3 := by
  refine ⟨?_, ?_, ?_, ?_⟩
  · rw [World.cell?_setCells_out b l 0 w _ (fun hb => absurd hb n1)]; exact h.1
  · rw [World.cell?_setCells_out b l 0 w _ (fun hb => absurd hb n1)]; exact h.2.1
  · rw [World.cell?_setCells_out b l 0 w _ (fun hb => absurd hb n2)]; exact h.2.2.1
  · rw [World.cell?_setCells_out b l 0 w _ (fun hb => absurd hb n2)]; exact h.2.2.2
theorem box6_keep {w w1 : World} {g g' b5 b6 : Nat} {l5 l6 : List Value} {v0 v1 v2 v3 : Value} (h : w.cell? ⟨g, 0, none⟩ = some v0 ∧ w.cell? ⟨g, 1, none⟩ = some v1 ∧ w.cell? ⟨g', 0, none⟩ = some v2 ∧ w.cell? ⟨g', 1, none⟩ = some v3 ∧ w.rangeAt b5 0 l5 ∧ w.rangeAt b6 0 l6) (hb : Below w.heap.size w w1) : w1.cell? ⟨g, 0, none⟩ = some v0 ∧ w1.cell? ⟨g, 1, none⟩ = some v1 ∧ w1.cell? ⟨g', 0, none⟩ = some v2 ∧ w1.cell? ⟨g', 1, none⟩ = some v3 ∧ w1.rangeAt b5 0 l5 ∧ w1.rangeAt b6 0 l6 := by
  obtain ⟨h0, h1, h2, h3, h5, h6⟩ := h
  have a := box4_keep ⟨h0, h1, h2, h3⟩ hb
  exact ⟨a.1, a.2.1, a.2.2.1, a.2.2.2, rangeAt_below h5 hb, rangeAt_below h6 hb⟩
theorem undrew {w w' : World} (h : Below w.drew.heap.size w.drew w') : Below w.heap.size w w' := (Below.refl w.heap.size w).drew.trans h
theorem there_new (w : World) : (w.alloc (.cells Tryd.zeroCells27 27)).there w.heap.size 0 128 := (BArr.zero w).there
theorem there_alloc' (w : World) (o : Obj) (b : Nat) (h : w.there b 0 128) : (w.alloc o).there b 0 128 := there_below h ((Below.refl _ _).alloc (Nat.le_refl _) _)
theorem there_new1 (w : World) (o : Obj) : ((w.alloc o).alloc (.cells Tryd.zeroCells27 27)).there (w.heap.size + 1) 0 128 := by
  have := there_new (w.alloc o)
  rwa [World.size_alloc] at this

set_option maxRecDepth 100000 in
set_option maxHeartbeats 6400000 in
theorem reckons_gen (xh : Int) (xl : Nat) (yh : Int) (yl : Nat) (nx ny ns nd nn : List Value) (sh : Int) (sl : Nat) (dh : Int) (dl : Nat) (c : Int) (w : World)
    (HAdd : Hid (∀ w, Calls Tryd.prog 11 #[.agg #[.int .i64 xh, .int .u64 xl], .agg #[.int .i64 yh, .int .u64 yl]] w fun e w' => e = .returned (.agg #[.int .i64 sh, .int .u64 sl]) ∧ Below w.heap.size w w'))
    (HBs : Hid (∀ w, Calls Tryd.prog 10 #[.agg #[.int .i64 sh, .int .u64 sl]] w fun e w' => e = .returned (.agg ns.toArray) ∧ Below w.heap.size w w'))
    (HRa : Hid (∀ w, Calls Tryd.prog 12 #[.agg nx.toArray, .agg ny.toArray] w fun e w' => e = .returned (.agg ns.toArray) ∧ Below w.heap.size w w'))
    (HSub : Hid (∀ w, Calls Tryd.prog 13 #[.agg #[.int .i64 xh, .int .u64 xl], .agg #[.int .i64 yh, .int .u64 yl]] w fun e w' => e = .returned (.agg #[.int .i64 dh, .int .u64 dl]) ∧ Below w.heap.size w w'))
    (HBd : Hid (∀ w, Calls Tryd.prog 10 #[.agg #[.int .i64 dh, .int .u64 dl]] w fun e w' => e = .returned (.agg nd.toArray) ∧ Below w.heap.size w w'))
    (HRn : Hid (∀ w, Calls Tryd.prog 14 #[.agg ny.toArray] w fun e w' => e = .returned (.agg nn.toArray) ∧ Below w.heap.size w w'))
    (HRs : Hid (∀ w, Calls Tryd.prog 12 #[.agg nx.toArray, .agg nn.toArray] w fun e w' => e = .returned (.agg nd.toArray) ∧ Below w.heap.size w w'))
    (HC : Hid (∀ w, Calls Tryd.prog 15 #[.agg #[.int .i64 xh, .int .u64 xl], .agg #[.int .i64 yh, .int .u64 yl]] w fun e w' => e = .returned (.int .i64 c) ∧ Below w.heap.size w w'))
    (HRc : Hid (∀ w, Calls Tryd.prog 16 #[.agg nx.toArray, .agg ny.toArray] w fun e w' => e = .returned (.int .i64 c) ∧ Below w.heap.size w w'))
    (HEs : ∀ w, (Op.equalIn 10000 27 (.agg ns.toArray) (.agg ns.toArray)).run Tryd.prog w = .ok true w) (HEd : ∀ w, (Op.equalIn 10000 27 (.agg nd.toArray) (.agg nd.toArray)).run Tryd.prog w = .ok true w)
    (HW : Hid (∀ w, TabW w → Calls Tryd.prog 9 #[] w fun e w' => e = .returned (.bool true) ∧ Below w.heap.size w w')) (htab : TabW w)
    (HX : Hid (∀ w, Calls Tryd.prog 10 #[.agg #[.int .i64 xh, .int .u64 xl]] w fun e w' => e = .returned (.agg nx.toArray) ∧ Below w.heap.size w w'))
    (HY : Hid (∀ w, Calls Tryd.prog 10 #[.agg #[.int .i64 yh, .int .u64 yl]] w fun e w' => e = .returned (.agg ny.toArray) ∧ Below w.heap.size w w'))
    (ix : (Tryd.prog.info? 27).map (·.size) = some nx.length) (iy : (Tryd.prog.info? 27).map (·.size) = some ny.length)
    (lx : nx.length = 128) (ly : ny.length = 128) (ox : ∀ v ∈ nx, v.oneCell' = true) (oy : ∀ v ∈ ny, v.oneCell' = true) :
    Calls Tryd.prog 3 #[.agg #[.int .i64 xh, .int .u64 xl], .agg #[.int .i64 yh, .int .u64 yl]] w fun e w' => e = .returned (.bool true) ∧ Below w.heap.size w w' := by
  have HT := Lib.hid htab
  clear htab
  have K0 := Lib.hid (box4_new w (.int .i64 xh) (.int .u64 xl) (.int .i64 yh) (.int .u64 yl) 24)
  have B0 : Hid (Below w.heap.size w ((w.alloc (.cells #[.int .i64 xh, .int .u64 xl] 24)).alloc (.cells #[.int .i64 yh, .int .u64 yl] 24))) := Lib.hid (((Below.refl _ _).alloc (Nat.le_refl _) _).alloc (by simp) _)
  have HEs' := Lib.hid HEs
  have HEd' := Lib.hid HEd
  clear HEs HEd
  go_enter Tryd.func3, Tryd.ntmps3
  go_wp2_with fail
  refine (HW.out _ (HT.out.keep B0.out)).mono ?_
  rintro e w1 ⟨rfl, hb⟩
  have k1 := box4_keep K0.out hb
  have s1 : w.heap.size + 2 ≤ w1.heap.size := by have := hb.size; simp at this; omega
  have B1 := Lib.hid (B0.out.trans (hb.mono (by simp; omega)))
  clear hb
  go_upto_region 3 with fail
  go_cut [5, 6] (fun p q wx => ∃ b5 b6 : Nat, p = .pointer (some ⟨b5, 0, none⟩) ∧ q = .pointer (some ⟨b6, 0, none⟩) ∧ Hid (Below w.heap.size w wx ∧ wx.rangeAt b5 0 nx ∧ wx.rangeAt b6 0 ny ∧ wx.cell? ⟨w.heap.size, 0, none⟩ = some (.int .i64 xh) ∧ wx.cell? ⟨w.heap.size, 1, none⟩ = some (.int .u64 xl) ∧ wx.cell? ⟨w.heap.size + 1, 0, none⟩ = some (.int .i64 yh) ∧ wx.cell? ⟨w.heap.size + 1, 1, none⟩ = some (.int .u64 yl)))
  case first =>
    have hA := there_new
    have hA1 := there_new1
    have hB := there_alloc'
    have hBB := fun (W : World) (o o' : Obj) (b : Nat) (h : W.there b 0 128) => there_alloc' _ o' b (there_alloc' W o b h)
    have hAA := fun (W : World) (o : Obj) => there_alloc' _ o _ (there_new W)
    have hC := fun (W : World) (b b' : Nat) (l : List Value) (h : W.there b 0 128) => World.there_setCells h b' 0 l
    go_region_held3 (fun w' => w'.cell? ⟨w.heap.size, 0, none⟩ = some (.int .i64 xh) ∧ w'.cell? ⟨w.heap.size, 1, none⟩ = some (.int .u64 xl) ∧ w'.cell? ⟨w.heap.size + 1, 0, none⟩ = some (.int .i64 yh) ∧ w'.cell? ⟨w.heap.size + 1, 1, none⟩ = some (.int .u64 yl)) (first | exact k1 | exact c1 | exact c2 | exact box4_keep (by assumption) ((Below.refl _ _).alloc (Nat.le_refl _) _) | exact box4_cells (by assumption) _ _ (by omega) (by omega))
      (first
        | (go_at_call_of 10 (Value.int .i64 yh); refine (HY.out _).mono ?_; rintro e w3 ⟨rfl, hb3⟩; have hD3 := fun b (h : World.there _ b 0 128) => there_below h hb3; have c2 := box4_keep (by assumption) hb3; have s3 := hb3.size; (try simp only [World.size_alloc] at s3); (try have BB3 : Below w.heap.size w w3 := by first | exact BB2.trans (hb3.mono (by omega)) | exact (BB2.alloc (by omega) _).trans (hb3.mono (by simp; omega)) | exact ((BB2.alloc (by omega) _).alloc (by simp; omega) _).trans (hb3.mono (by simp; omega))); (try have f31 := hD3 _ (hA _)); (try have f32 := hD3 _ (hAA _ _)); (try have f33 := hD3 _ (hA1 _ _)); (try have f34 := hD3 _ f21); (try have f35 := hD3 _ f22); (try have f36 := hD3 _ f23); (try have f37 := hD3 _ (hB _ _ _ f21)))
        | (go_at_call_of 10 (Value.int .i64 xh); refine (HX.out _).mono ?_; rintro e w2 ⟨rfl, hb2⟩; have hU2 := undrew hb2; have hD2 := fun b (h : World.there _ b 0 128) => there_below h hU2; have c1 := box4_keep (by assumption) hb2; have s2 := hU2.size; (try simp only [World.size_alloc] at s2); (try have BB2 : Below w.heap.size w w2 := by first | exact B1.out.trans (hU2.mono (by omega)) | exact (B1.out.alloc (by omega) _).trans (hU2.mono (by simp; omega)) | exact ((B1.out.alloc (by omega) _).alloc (by simp; omega) _).trans (hU2.mono (by simp; omega))); (try have f21 := hD2 _ (hA _)); (try have f22 := hD2 _ (hAA _ _)); (try have f23 := hD2 _ (hA1 _ _))))
    all_goals
      go_wp2_with fail
      go_meet
      refine ⟨_, _, rfl, rfl, Lib.hid ⟨?_, ?_, ?_, by assumption⟩⟩
      · first
          | exact below_setCells (below_setCells BB3 (by omega) _ _) (by omega) _ _
          | exact below_setCells (below_setCells (BB3.alloc (by omega) _) (by omega) _ _) (by omega) _ _
          | exact below_setCells (below_setCells ((BB3.alloc (by omega) _).alloc (by simp; omega) _) (by omega) _ _) (by omega) _ _
      · refine World.rangeAt_setCells_apart (World.rangeAt_setCells_same _ _ _ _ ?_) _ _ _ (.inl ?_)
        · rw [lx]
          first | assumption | (simp only [*]; done)
        · omega
      · refine World.rangeAt_setCells_same _ _ _ _ ?_
        rw [ly]
        refine World.there_setCells ?_ _ _ _
        first | assumption | (simp only [*]; done)
  case rest =>
    obtain ⟨b5, b6, rfl, rfl, Hc⟩ := hcut
    have Bc := Hc.out.1
    have kc : wc.cell? ⟨w.heap.size, 0, none⟩ = some (.int .i64 xh) ∧ wc.cell? ⟨w.heap.size, 1, none⟩ = some (.int .u64 xl) ∧ wc.cell? ⟨w.heap.size + 1, 0, none⟩ = some (.int .i64 yh) ∧ wc.cell? ⟨w.heap.size + 1, 1, none⟩ = some (.int .u64 yl) ∧ wc.rangeAt b5 0 nx ∧ wc.rangeAt b6 0 ny :=
      ⟨Hc.out.2.2.2.1, Hc.out.2.2.2.2.1, Hc.out.2.2.2.2.2.1, Hc.out.2.2.2.2.2.2, Hc.out.2.1, Hc.out.2.2.1⟩
    have hu := Tryd.underlying27
    have HEs := HEs'.out
    have HEd := HEd'.out
    go_wp2_with fail
    refine wp_region_held_drew (S := fun w' => w'.cell? ⟨w.heap.size, 0, none⟩ = some (.int .i64 xh) ∧ w'.cell? ⟨w.heap.size, 1, none⟩ = some (.int .u64 xl) ∧ w'.cell? ⟨w.heap.size + 1, 0, none⟩ = some (.int .i64 yh) ∧ w'.cell? ⟨w.heap.size + 1, 1, none⟩ = some (.int .u64 yl) ∧ w'.rangeAt b5 0 nx ∧ w'.rangeAt b6 0 ny) (by kernel_rfl) kc (fun hHeld => ?_)
    refine wpAnyH_take (i := 0) (v := .agg #[.int .i64 xh, .int .u64 xl]) rfl (by kernel_rfl) (by kernel_rfl) (by kernel_rfl) (fun _ _ _ h => h) (Or.inl ⟨by rfl, ?_⟩) (by assumption) ?_
    · intro w hSw; (try dsimp only at hSw); go_simp
    refine wpAnyH_take (i := 1) (v := .agg #[.int .i64 yh, .int .u64 yl]) rfl (by kernel_rfl) (by kernel_rfl) (by kernel_rfl) (fun _ _ _ h => h) (Or.inl ⟨by rfl, ?_⟩) (by assumption) ?_
    · intro w hSw; (try dsimp only at hSw); go_simp
    refine wpAnyH_take (i := 4) (v := .agg nx.toArray) rfl (by kernel_rfl) (by kernel_rfl) (by kernel_rfl) (fun _ _ _ h => h) (yieldsIf_load_mid (by rfl) _ _ rfl b5 0 rfl nx _ (fun w hS => hS.2.2.2.2.1) hu rfl ix) (by assumption) ?_
    refine wpAnyH_take (i := 5) (v := .agg ny.toArray) rfl (by kernel_rfl) (by kernel_rfl) (by kernel_rfl) (fun _ _ _ h => h) (yieldsIf_load_mid (by rfl) _ _ rfl b6 0 rfl ny _ (fun w hS => hS.2.2.2.2.2) hu rfl iy) (by assumption) ?_
    refine wpAnyH_ready (rs := [2]) (by kernel_rfl) (by simp) ?_
    refine AllReadyH.cons rfl (fun K' hK => ?_) AllReadyH.nil
    go_simp
    refine (HAdd.out _).mono ?_
    rintro e v1 ⟨rfl, g1⟩
    have u1 := undrew g1
    have q1 := box6_keep kc u1
    have Bq1 := Bc.trans (u1.mono Bc.size)
    go_wp2_with fail
    refine hK.out _ _ q1 (fun hHeld => ?_)
    clear hK K'
    refine wpAnyH_ready (rs := [3]) (by kernel_rfl) (by simp) ?_
    refine AllReadyH.cons rfl (fun K' hK => ?_) AllReadyH.nil
    go_simp
    refine (HBs.out _).mono ?_
    rintro e v2 ⟨rfl, g2⟩
    have q2 := box6_keep q1 g2
    have Bq2 := Bq1.trans (g2.mono Bq1.size)
    go_wp2_with fail
    refine hK.out _ _ q2 (fun hHeld => ?_)
    clear hK K'
    refine wpAnyH_ready (rs := [6]) (by kernel_rfl) (by simp) ?_
    refine AllReadyH.cons rfl (fun K' hK => ?_) AllReadyH.nil
    go_simp
    refine (HRa.out _).mono ?_
    rintro e v3 ⟨rfl, g3⟩
    have q3 := box6_keep q2 g3
    have Bq3 := Bq2.trans (g3.mono Bq2.size)
    go_wp2_with fail
    refine hK.out _ _ q3 (fun hHeld => ?_)
    clear hK K'
    refine wpAnyH_take (i := 7) (v := .bool true) rfl (by kernel_rfl) (by kernel_rfl) (by kernel_rfl) (fun _ _ _ h => h) (Or.inl ⟨by rfl, ?_⟩) (by assumption) ?_
    · intro w hSw; (try dsimp only at hSw); go_simp
    refine wpAnyH_take (i := 8) (v := .bool true) rfl (by kernel_rfl) (by kernel_rfl) (by kernel_rfl) (fun _ _ _ h => h) (Or.inl ⟨by rfl, ?_⟩) (by assumption) ?_
    · intro w hSw; (try dsimp only at hSw); go_simp
    refine wpAnyH_take (i := 9) (v := .agg #[.int .i64 xh, .int .u64 xl]) rfl (by kernel_rfl) (by kernel_rfl) (by kernel_rfl) (fun _ _ _ h => h) (Or.inl ⟨by rfl, ?_⟩) (by assumption) ?_
    · intro w hSw; (try dsimp only at hSw); go_simp
    refine wpAnyH_take (i := 10) (v := .agg #[.int .i64 yh, .int .u64 yl]) rfl (by kernel_rfl) (by kernel_rfl) (by kernel_rfl) (fun _ _ _ h => h) (Or.inl ⟨by rfl, ?_⟩) (by assumption) ?_
    · intro w hSw; (try dsimp only at hSw); go_simp
    refine wpAnyH_take (i := 13) (v := .agg nx.toArray) rfl (by kernel_rfl) (by kernel_rfl) (by kernel_rfl) (fun _ _ _ h => h) (yieldsIf_load_mid (by rfl) _ _ rfl b5 0 rfl nx _ (fun w hS => hS.2.2.2.2.1) hu rfl ix) (by assumption) ?_
    refine wpAnyH_take (i := 14) (v := .agg ny.toArray) rfl (by kernel_rfl) (by kernel_rfl) (by kernel_rfl) (fun _ _ _ h => h) (yieldsIf_load_mid (by rfl) _ _ rfl b6 0 rfl ny _ (fun w hS => hS.2.2.2.2.2) hu rfl iy) (by assumption) ?_
    refine wpAnyH_ready (rs := [11]) (by kernel_rfl) (by simp) ?_
    refine AllReadyH.cons rfl (fun K' hK => ?_) AllReadyH.nil
    go_simp
    refine (HSub.out _).mono ?_
    rintro e v4 ⟨rfl, g4⟩
    have q4 := box6_keep q3 g4
    have Bq4 := Bq3.trans (g4.mono Bq3.size)
    go_wp2_with fail
    refine hK.out _ _ q4 (fun hHeld => ?_)
    clear hK K'
    refine wpAnyH_ready (rs := [12]) (by kernel_rfl) (by simp) ?_
    refine AllReadyH.cons rfl (fun K' hK => ?_) AllReadyH.nil
    go_simp
    refine (HBd.out _).mono ?_
    rintro e v5 ⟨rfl, g5⟩
    have q5 := box6_keep q4 g5
    have Bq5 := Bq4.trans (g5.mono Bq4.size)
    go_wp2_with fail
    refine hK.out _ _ q5 (fun hHeld => ?_)
    clear hK K'
    refine wpAnyH_ready (rs := [15]) (by kernel_rfl) (by simp) ?_
    refine AllReadyH.cons rfl (fun K' hK => ?_) AllReadyH.nil
    go_simp
    refine (HRn.out _).mono ?_
    rintro e v6 ⟨rfl, g6⟩
    have q6 := box6_keep q5 g6
    have Bq6 := Bq5.trans (g6.mono Bq5.size)
    go_wp2_with fail
    refine hK.out _ _ q6 (fun hHeld => ?_)
    clear hK K'
    refine wpAnyH_ready (rs := [16]) (by kernel_rfl) (by simp) ?_
    refine AllReadyH.cons rfl (fun K' hK => ?_) AllReadyH.nil
    go_simp
    refine (HRs.out _).mono ?_
    rintro e v7 ⟨rfl, g7⟩
    have q7 := box6_keep q6 g7
    have Bq7 := Bq6.trans (g7.mono Bq6.size)
    go_wp2_with fail
    refine hK.out _ _ q7 (fun hHeld => ?_)
    clear hK K'
    refine wpAnyH_take (i := 17) (v := .bool true) rfl (by kernel_rfl) (by kernel_rfl) (by kernel_rfl) (fun _ _ _ h => h) (Or.inl ⟨by rfl, ?_⟩) (by assumption) ?_
    · intro w hSw; (try dsimp only at hSw); go_simp
    refine wpAnyH_take (i := 18) (v := .bool true) rfl (by kernel_rfl) (by kernel_rfl) (by kernel_rfl) (fun _ _ _ h => h) (Or.inl ⟨by rfl, ?_⟩) (by assumption) ?_
    · intro w hSw; (try dsimp only at hSw); go_simp
    refine wpAnyH_take (i := 19) (v := .bool true) rfl (by kernel_rfl) (by kernel_rfl) (by kernel_rfl) (fun _ _ _ h => h) (Or.inl ⟨by rfl, ?_⟩) (by assumption) ?_
    · intro w hSw; (try dsimp only at hSw); go_simp
    refine wpAnyH_take (i := 20) (v := .agg #[.int .i64 xh, .int .u64 xl]) rfl (by kernel_rfl) (by kernel_rfl) (by kernel_rfl) (fun _ _ _ h => h) (Or.inl ⟨by rfl, ?_⟩) (by assumption) ?_
    · intro w hSw; (try dsimp only at hSw); go_simp
    refine wpAnyH_take (i := 21) (v := .agg #[.int .i64 yh, .int .u64 yl]) rfl (by kernel_rfl) (by kernel_rfl) (by kernel_rfl) (fun _ _ _ h => h) (Or.inl ⟨by rfl, ?_⟩) (by assumption) ?_
    · intro w hSw; (try dsimp only at hSw); go_simp
    refine wpAnyH_take (i := 23) (v := .agg nx.toArray) rfl (by kernel_rfl) (by kernel_rfl) (by kernel_rfl) (fun _ _ _ h => h) (yieldsIf_load_mid (by rfl) _ _ rfl b5 0 rfl nx _ (fun w hS => hS.2.2.2.2.1) hu rfl ix) (by assumption) ?_
    refine wpAnyH_take (i := 24) (v := .agg ny.toArray) rfl (by kernel_rfl) (by kernel_rfl) (by kernel_rfl) (fun _ _ _ h => h) (yieldsIf_load_mid (by rfl) _ _ rfl b6 0 rfl ny _ (fun w hS => hS.2.2.2.2.2) hu rfl iy) (by assumption) ?_
    refine wpAnyH_ready (rs := [22]) (by kernel_rfl) (by simp) ?_
    refine AllReadyH.cons rfl (fun K' hK => ?_) AllReadyH.nil
    go_simp
    refine (HC.out _).mono ?_
    rintro e v8 ⟨rfl, g8⟩
    have q8 := box6_keep q7 g8
    have Bq8 := Bq7.trans (g8.mono Bq7.size)
    go_wp2_with fail
    refine hK.out _ _ q8 (fun hHeld => ?_)
    clear hK K'
    refine wpAnyH_ready (rs := [25]) (by kernel_rfl) (by simp) ?_
    refine AllReadyH.cons rfl (fun K' hK => ?_) AllReadyH.nil
    go_simp
    refine (HRc.out _).mono ?_
    rintro e v9 ⟨rfl, g9⟩
    have q9 := box6_keep q8 g9
    have Bq9 := Bq8.trans (g9.mono Bq8.size)
    go_wp2_with fail
    refine hK.out _ _ q9 (fun hHeld => ?_)
    clear hK K'
    refine wpAnyH_take (i := 26) (v := .bool true) rfl (by kernel_rfl) (by kernel_rfl) (by kernel_rfl) (fun _ _ _ h => h) (Or.inl ⟨by rfl, ?_⟩) (by assumption) ?_
    · intro w hSw; (try dsimp only at hSw); go_simp
    refine wpAnyH_take (i := 27) (v := .bool true) rfl (by kernel_rfl) (by kernel_rfl) (by kernel_rfl) (fun _ _ _ h => h) (Or.inl ⟨by rfl, ?_⟩) (by assumption) ?_
    · intro w hSw; (try dsimp only at hSw); go_simp
    refine wpAnyH_take (i := 28) (v := .bool true) rfl (by kernel_rfl) (by kernel_rfl) (by kernel_rfl) (fun _ _ _ h => h) (Or.inl ⟨by rfl, ?_⟩) (by assumption) ?_
    · intro w hSw; (try dsimp only at hSw); go_simp
    refine wpAnyH_done (by kernel_rfl) ?_ _
    go_wp2_with fail
    go_ret
    refine ⟨?_, Bq9⟩
    rfl

theorem WideReckons_any (x y : BitVec 128) (w : World) (htab : TabW w) :
    Calls Tryd.prog 3 #[.agg #[.int .i64 (hiB x), .int .u64 (loB x)], .agg #[.int .i64 (hiB y), .int .u64 (loB y)]] w fun e w' => e = .returned (.bool true) ∧ Below w.heap.size w w' :=
  reckons_gen (hiB x) (loB x) (hiB y) (loB y) (fL fun i => x.getLsbD i) (fL fun i => y.getLsbD i) (fL fun i => (x + y).getLsbD i) (fL fun i => (x - y).getLsbD i) (fL fun i => (-y).getLsbD i)
    (hiB (x + y)) (loB (x + y)) (hiB (x - y)) (loB (x - y)) (cmpI x.toInt y.toInt) w
    (Lib.hid fun w => add_any x y w) (Lib.hid fun w => bits_any (x + y) w) (Lib.hid fun w => refAdd_any x y w) (Lib.hid fun w => sub_any x y w) (Lib.hid fun w => bits_any (x - y) w) (Lib.hid fun w => refNeg_any y w)
    (Lib.hid fun w => by have := refAdd_any x (-y) w; rw [← BitVec.sub_eq_add_neg] at this; exact this)
    (Lib.hid fun w => compare_any x y w) (Lib.hid fun w => refCompare_any x y w) (fun w => by have := wide_equal (x + y) (x + y) w; rw [decide_eq_true rfl] at this; exact this) (fun w => by have := wide_equal (x - y) (x - y) w; rw [decide_eq_true rfl] at this; exact this)
    (Lib.hid awake_any) htab (Lib.hid fun w => bits_any x w) (Lib.hid fun w => bits_any y w) (wide_len _) (wide_len _) (fL_length _) (fL_length _) (fL_one _) (fL_one _)
end Go.Proofs.YtiahfdlmjfpglaaDoor
