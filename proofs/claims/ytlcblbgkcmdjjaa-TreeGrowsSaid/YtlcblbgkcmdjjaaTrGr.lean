/- The law TreeGrows walked. -/
import Derived.Test.YtlcblbgkcmdjjaaTrA
import Derived.Test.YtlcblbgkcmdjjaaTrHt
namespace Go.Proofs.Ytlcblbgkcmdjjaa
open Go.RowKit

abbrev cZ : Obj := .cells #[.int .i64 0, .int .i64 0, .string ⟨#[]⟩] 36
def zV : Vl := ⟨0, 0, ⟨#[]⟩⟩
theorem put3_any (t : Tre) (p : Ptr) (n : Int) (w : World) (ht : TrAt Any w t p) (hn : t.n ≤ 1000000000) :
    Makes 21 #[.pointer p, .slice (some ⟨w.heap.size + 1, 0, none⟩) 1 1, .slice (some ⟨w.heap.size + 1 + 1, 0, none⟩) 1 1] (((w.alloc (cI n)).alloc (cI n)).alloc cZ) (fun W q => TrAt Any W (Tr.put rowsOrd [viV n] [zV] t) q) := by
  have s1 : (w.alloc (cI n)).heap.size = w.heap.size + 1 := by simp
  have g1 := World.grownBy_alloc w (cI n) none
  generalize w.alloc (cI n) = w1 at *
  have s2 : (w1.alloc (cI n)).heap.size = w.heap.size + 1 + 1 := by simp [s1]
  have g2 := World.grownBy_alloc w1 (cI n) none
  have r2 : RowAt (w1.alloc (cI n)) (some ⟨w.heap.size + 1, 0, none⟩) [viV n] := row1_at w1 36 (w.heap.size + 1) (viV n) (by show (0 : Nat) ≤ maxLen; exact Nat.zero_le _) s1.symm
  generalize w1.alloc (cI n) = w2 at *
  have g3 := World.grownBy_alloc w2 cZ none
  have r4 : RowAt (w2.alloc cZ) (some ⟨w.heap.size + 1 + 1, 0, none⟩) [zV] := row1_at w2 36 (w.heap.size + 1 + 1) zV (by show (0 : Nat) ≤ maxLen; exact Nat.zero_le _) s2.symm
  exact Put_any Any t p _ _ 1 1 [viV n] [zV] _ (fun _ _ => trivial) (ht.keep (.of ((g1.trans g2).trans g3))) (r2.keep (below_grownT g3)) r4 (by simp) (by simp) hn
/-- What has grown so far. -/
def Grows (sg : Int) (j : Nat) (t : Tre) : Prop := Tr.ok t ∧ Tr.Sorted rowsOrd t.toL ∧ t.n = j ∧ ∀ x ∈ t.toL, ∃ a : Nat, a < j ∧ x.1 = [viV (sg * a)]
theorem Grows.step {sg : Int} (hsg : sg = 1 ∨ sg = -1) {j : Nat} {t : Tre} (h : Grows sg j t) : Grows sg (j + 1) (Tr.put rowsOrd [viV (sg * j)] [zV] t) := by
  obtain ⟨h1, h2, h3, h4⟩ := h
  have e := Tr.put_toL ro_ord [viV (sg * j)] [zV] t h2
  have hne : ∀ x ∈ t.toL, rowsOrd x.1 [viV (sg * j)] ≠ 0 := fun x hx he => by
    obtain ⟨a, ha, hxa⟩ := h4 x hx
    have := (ro_zero _ _).1 he
    rw [hxa] at this
    simp [viV] at this
    rcases hsg with rfl | rfl <;> omega
  have e2 : Tr.putL rowsOrd [viV (sg * j)] [zV] t.toL = Tr.ins rowsOrd [viV (sg * j)] [zV] t.toL := by
    unfold Tr.putL
    rw [Tr.delL_none hne]
  refine ⟨(Tr.put_ok rowsOrd _ _ t h1).1, by rw [e]; exact Tr.putL_sorted ro_ord h2, ?_, fun x hx => ?_⟩
  · rw [Tr.n_toL, e, e2, Tr.ins_len, ← Tr.n_toL, h3]
  · rw [e, e2] at hx
    rcases Tr.mem_ins _ hx with rfl | hx
    · exact ⟨j, by omega, rfl⟩
    · obtain ⟨a, ha, hxa⟩ := h4 x hx
      exact ⟨a, by omega, hxa⟩
set_option maxRecDepth 100000 in
set_option maxHeartbeats 6400000 in
theorem TreeGrows_any (n : Int) (f : Bool) (w : World) (h0 : 0 ≤ n) :
    Calls Try.prog 7 #[.int .u16 n, .bool f] w fun e w' => e = .returned (.bool true) ∧ Below w.heap.size w w' := by
  have HA := Lib.hid (awake7_any w)
  obtain ⟨k, hk, hkn⟩ : ∃ k : Nat, k < 2000 ∧ n % 2000 = (k : Int) := ⟨(n % 2000).toNat, by omega, by omega⟩
  have hkm : n.tmod 2000 = (k : Int) := by rw [Int.tmod_eq_emod_of_nonneg h0]; exact hkn
  go_enter Try.func7, Try.ntmps7
  go_wp2_with fail
  refine HA.out.mono ?_
  rintro e w1 ⟨rfl, hg⟩
  have K1 := Lib.hid hg
  clear hg HA
  go_wp2_with fail
  clear hkn hkm h0
  obtain ⟨sg, hsg⟩ : ∃ sg : Int, sg = if f then -1 else 1 := ⟨_, rfl⟩
  have hs2 : sg = 1 ∨ sg = -1 := by rw [hsg]; split <;> simp
  have HS := Lib.hid hs2
  go_loopw [6, 7] (fun s i wr => ∃ (p : Ptr) (j : Nat), s = .pointer p ∧ i = .int .i64 j ∧ j ≤ k ∧ Hid (∃ t, TrAt Any wr t p ∧ Grows sg j t ∧ w1.grownBy wr none)) (fun _ i _ => k - (intOf i).toNat)
  case atStart => exact ⟨none, 0, rfl, rfl, by omega, Lib.hid ⟨.nil, rfl, ⟨trivial, by simp [Tr.toL, Tr.Sorted], rfl, by simp [Tr.toL]⟩, grown_reflT _ _⟩⟩
  case round =>
    obtain ⟨p, j, rfl, rfl, hj, K⟩ := hrel
    obtain ⟨t, ht, hG, hgr⟩ := K.out
    have hn := hG.2.2.1
    by_cases hlt : j < k
    · have HP := Lib.hid (Makes.calls (put3_any t p (sg * j) wr ht (by omega)))
      have D := Lib.hid (And.intro (hG.step hs2) hgr)
      clear hG ht hgr hn K hs2
      cases f
      · have e1 : sg * (j : Int) = (j : Int) := by rw [hsg]; simp
        rw [e1] at HP
        have E1 := Lib.hid e1
        clear e1 hsg
        go_wp2_with (go_at_call 20; refine (refInt_any _ _).mono ?_; rintro e w2 ⟨rfl, rfl⟩; unfold vi)
        refine HP.out.mono ?_
        rintro e w2 ⟨⟨q, rfl, hq⟩, hg2⟩
        have D2 := Lib.hid (And.intro hq hg2)
        clear hq hg2
        go_wp2_with fail
        go_roundw
        case rel => exact ⟨q, j + 1, rfl, by go_num, by omega, Lib.hid ⟨_, D2.out.1, by rw [← E1.out]; exact D.out.1, (D.out.2.trans (((World.grownBy_alloc _ _ none).trans (World.grownBy_alloc _ _ none)).trans (World.grownBy_alloc _ _ none))).trans D2.out.2⟩⟩
        case measure => simp [intOf]; omega
      · have e1 : sg * (j : Int) = -(j : Int) := by rw [hsg]; simp
        rw [e1] at HP
        have E1 := Lib.hid e1
        have hw : IntKind.i64.wrap (-(j : Int)) = -(j : Int) := by rw [IntKind.wrap_i64]; omega
        have hw2 : wrap64 (-(j : Int)) = -(j : Int) := by unfold wrap64; omega
        clear e1 hsg
        go_wp2_with (go_at_call 20; refine (refInt_any _ _).mono ?_; rintro e w2 ⟨rfl, rfl⟩; unfold vi)
        refine HP.out.mono ?_
        rintro e w2 ⟨⟨q, rfl, hq⟩, hg2⟩
        have D2 := Lib.hid (And.intro hq hg2)
        clear hq hg2 hw hw2
        go_wp2_with fail
        go_roundw
        case rel => exact ⟨q, j + 1, rfl, by go_num, by omega, Lib.hid ⟨_, D2.out.1, by rw [← E1.out]; exact D.out.1, (D.out.2.trans (((World.grownBy_alloc _ _ none).trans (World.grownBy_alloc _ _ none)).trans (World.grownBy_alloc _ _ none))).trans D2.out.2⟩⟩
        case measure => simp [intOf]; omega
    · obtain rfl : j = k := by omega
      have HL := Lib.hid (hn ▸ len_any Any t p wr ht)
      have HH := Lib.hid (height_any Any t p wr ht)
      have HB := Lib.hid (show Calls Try.prog 27 #[.int .i64 ((j : Int) + 1)] wr fun e w' => e = .returned (.int .i64 (bitsN (j + 1) : Nat)) ∧ wr = w' from refBits_any (j + 1) wr (by omega))
      have hb := high t hG.1
      rw [hn] at hb
      have hh := Tr.h_le t
      have hbl := bitsN_le (j + 1)
      have D := Lib.hid hgr
      generalize t.h = x at *
      generalize bitsN (j + 1) = y at *
      have hx : ((2 : Int) * x ≤ 3 * y) := by omega
      have hw1 : IntKind.i64.wrap (2 * (x : Int)) = 2 * (x : Int) := by rw [IntKind.wrap_i64]; omega
      have hw2 : IntKind.i64.wrap (3 * (y : Int)) = 3 * (y : Int) := by rw [IntKind.wrap_i64]; omega
      clear hG ht hgr K hh hbl hb hs2 hsg
      go_wp2_with fail
      refine HL.out.mono ?_
      rintro e w2 ⟨rfl, rfl⟩
      go_wp2_with fail
      refine HH.out.mono ?_
      rintro e w2 ⟨rfl, rfl⟩
      go_wp2_with fail
      refine HB.out.mono ?_
      rintro e w2 ⟨rfl, rfl⟩
      go_wp2_with fail
      go_ret
      exact ⟨by simp, below_grownT (K1.out.trans D.out)⟩
end Go.Proofs.Ytlcblbgkcmdjjaa
