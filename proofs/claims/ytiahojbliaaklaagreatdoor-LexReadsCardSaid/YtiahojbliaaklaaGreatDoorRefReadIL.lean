/- The contract of the reference's Read: what doesn't stand between quotes is read as an int. (Laid by a program of ours: gen_refreadi.py.) -/
import Derived.Test.YtiahojbliaaklaaGreatDoorRefRead
namespace Go.Proofs.YtiahojbliaaklaaGreatDoor
open Go.RowKit

theorem dval_prefix (a b : List UInt8) : dval a ≤ dval (a ++ b) := by
  have e : dval (a ++ b) = dfrom (dval a) b := by unfold dval dfrom; rw [List.foldl_append]
  rw [e]; exact dfrom_ge _ _
theorem dval_take (t : List UInt8) (j : Nat) : dval (t.take j) ≤ dval t := by
  have := dval_prefix (t.take j) (t.drop j)
  rwa [List.take_append_drop] at this
/-- The byte at a place behind the first few. -/
theorem take_drop_byte (s : ByteArray) (a k : Nat) (h : k < s.size) (ha : a ≤ k) : (s.data.toList.drop a).take (k - a + 1) = (s.data.toList.drop a).take (k - a) ++ [s[k]] := by
  have hl : k - a < (s.data.toList.drop a).length := by rw [List.length_drop, ← size_list rfl]; omega
  rw [List.take_succ_eq_append_getElem hl, List.getElem_drop]
  congr 2
  have : a + (k - a) = k := by omega
  simp only [this]
  rfl
theorem take_drop_all (s : ByteArray) (a : Nat) : (s.data.toList.drop a).take (s.size - a) = s.data.toList.drop a := by
  refine List.take_of_length_le ?_
  rw [List.length_drop, ← size_list rfl]; exact Nat.le_refl _
theorem dval_step (l : List UInt8) (c : UInt8) : dval (l ++ [c]) = 10 * dval l + (c.toNat - 48) := dval_snoc l c
theorem all_false_take {t : List UInt8} {j : Nat} {c : UInt8} (h : t.take (j + 1) = t.take j ++ [c]) (hc : digB c = false) : t.all digB = false := by
  rw [← List.take_append_drop (j + 1) t, List.all_append, h, List.all_append]
  simp [hc]

/-- An empty result's block, and all elder as it was. -/
structure RZ (w wr : World) : Prop where
  below : Below w.heap.size w wr
  size : w.heap.size + 1 ≤ wr.heap.size
  blk : wr.heap[w.heap.size]? = some (.cells #[.int .i64 0, .int .i64 0, .string ⟨#[]⟩] 63 (0, 0))
theorem RZ.drewN {w wr : World} (h : RZ w wr) (n : Nat) : RZ w (wr.drewN n) := ⟨below_drewN h.below n, h.size, h.blk⟩
theorem RZ.alloc {w wr : World} (h : RZ w wr) (o : Obj) : RZ w (wr.alloc o) := by
  have := h.size
  exact ⟨h.below.alloc (by omega) o, by simp; omega, by rw [Lib.alloc_old _ _ _ (by omega)]; exact h.blk⟩
theorem refInt_is (n n' : Int) (w : World) (h : n = n') :
    Calls Tryz.prog 33 #[.int .i64 n] w fun e w' => e = .returned (vi n') ∧ w.alloc (.cells #[.int .i64 2, .int .i64 n', .string ⟨#[]⟩] 63) = w' := by subst h; exact refInt_any n w
theorem RZ.begin (w : World) : RZ w (w.alloc (.cells #[.int .i64 0, .int .i64 0, .string ⟨#[]⟩] 63)) :=
  ⟨(Below.refl _ _).alloc (Nat.le_refl _) _, by simp, heap_new _ _⟩

set_option maxRecDepth 100000 in
set_option maxHeartbeats 3200000 in
theorem refRead_pos (s : ByteArray) (w : World) (hs : s.size ≤ 1510) (h1 : (s.toList == [78, 85, 76, 76]) = false) (h2 : (s.toList == [70, 65, 76, 83, 69]) = false) (h3 : (s.toList == [84, 82, 85, 69]) = false)
    (hz0 : 0 < s.size) (e39 : ¬ ((s[0].toNat : Int)) = 39) (e45 : ((s[0].toNat : Int) == 45) = false) (e48 : ¬ ((s[0].toNat : Int)) = 48) (hz2 : (2 : Int) ≤ s.size) (HW : Hid (wrB s.data.toList = (s.data.toList.drop 0).all digB)) (HI : Hid (ival s.data.toList = (dval (s.data.toList.drop 0) : Int))) :
    Calls Tryz.prog 22 #[.string s] w fun e w' => e = .returned (intRes s.data.toList) ∧ Below w.heap.size w w' := by
  have hz : (0 : Int) < s.size := by omega
  have hb0 : ((0 : Int) == (s.size : Int)) = false := by rw [beq_eq_false_iff_ne]; omega
  go_enter Tryz.func22, Tryz.ntmps22
  go_wp2_with fail
  go_loopw [10] (fun i wr => ∃ (k : Nat), i = .int .i64 k ∧ 0 ≤ k ∧ k ≤ s.size ∧ Hid (((s.data.toList.drop 0).take (k - 0)).all digB = true) ∧ RZ w wr) (fun i _ => s.size - (intOf i).toNat)
  case atStart => exact ⟨0, rfl, by omega, by omega, Lib.hid (by simp), RZ.begin w⟩
  case round =>
    obtain ⟨k, rfl, hk1, hk, hall, hz4⟩ := hrel
    obtain ⟨c0, c1, c2, f0, f1, f2⟩ := kept3 (b := w.heap.size) (Below.refl _ wr) (by have := hz4.size; omega) hz4.blk
    by_cases hlt : k < s.size
    · have hb256 := byte_lt s[k]
      cases hd : digB s[k] with
      | false =>
        have Hr := Lib.hid (show intRes s.data.toList = .tuple #[vz, .int .i64 2] by unfold intRes; rw [HW.out, all_false_take (take_drop_byte s 0 k hlt hk1) hd]; rfl)
        by_cases p1 : (s[k].toNat : Int) < 48
        · clear hd
          go_wp2_with fail
          exact bodyPost_ret (v := .tuple #[vz, .int .i64 2]) (by simp [results, Tryz.results22, go_sem, c0, c1, c2]) rfl ⟨by rw [Hr.out], below_store3 hz4.below (Nat.le_refl _) _ _ _⟩
        · have p2 : (57 : Int) < s[k].toNat := by simp [digB] at hd; omega
          clear hd
          go_wp2_with fail
          exact bodyPost_ret (v := .tuple #[vz, .int .i64 2]) (by simp [results, Tryz.results22, go_sem, c0, c1, c2]) rfl ⟨by rw [Hr.out], below_store3 hz4.below (Nat.le_refl _) _ _ _⟩
      | true =>
        have p1 : (48 : Int) ≤ s[k].toNat := by simp [digB] at hd; omega
        have p2 : (s[k].toNat : Int) ≤ 57 := by simp [digB] at hd; omega
        have hall2 : Hid (((s.data.toList.drop 0).take (k + 1 - 0)).all digB = true) := Lib.hid (by
          rw [show k + 1 - 0 = k - 0 + 1 by omega, take_drop_byte s 0 k hlt hk1, List.all_append, hall.out]; simp [hd])
        clear hd
        go_wp2_with fail
        go_roundw
        case rel => exact ⟨k + 1, by go_num, by omega, by omega, hall2, by first | exact hz4 | exact hz4.drewN _⟩
        case measure => simp [intOf]; omega
    · obtain rfl : k = s.size := by omega
      have Hall : Hid ((s.data.toList.drop 0).all digB = true) := Lib.hid (by have := hall.out; rwa [take_drop_all] at this)
      have Hdig : Hid (∀ j (h : j < s.size), 0 ≤ j → 48 ≤ s[j].toNat ∧ s[j].toNat ≤ 57) := Lib.hid fun j h hj => by
        have hm : s[j] ∈ s.data.toList.drop 0 := by
          have := take_drop_byte s 0 j h hj
          refine List.mem_of_mem_take (i := j - 0 + 1) ?_
          rw [this]; simp
        exact digB_iff.1 (List.all_eq_true.1 Hall.out _ hm)
      obtain ⟨wo, hwo⟩ : ∃ wo : World, wo = wr := ⟨_, rfl⟩
      clear hall
      go_wp2_with fail
      go_loopw [9, 11] (fun i v wr => ∃ (k u : Nat), i = .int .i64 k ∧ v = .int .u64 u ∧ 0 ≤ k ∧ k ≤ s.size ∧ u ≤ 9223372036854775807 ∧ Hid (u = dval ((s.data.toList.drop 0).take (k - 0))) ∧ RZ w wr) (fun i _ _ => s.size - (intOf i).toNat)
      case atStart => exact ⟨0, 0, rfl, rfl, by omega, by omega, by omega, Lib.hid (by simp [dval]), by first | exact hz4 | exact hz4.drewN _⟩
      case round =>
        clear hz4 c0 c1 c2 f0 f1 f2
        obtain ⟨k, u, rfl, rfl, hk1, hk2, hu, hud, hz4⟩ := hrel
        obtain ⟨c0, c1, c2, f0, f1, f2⟩ := kept3 (b := w.heap.size) (Below.refl _ wr) (by have := hz4.size; omega) hz4.blk
        by_cases hlt2 : k < s.size
        · obtain ⟨p1, p2⟩ := Hdig.out k hlt2 hk1
          have q1 : (48 : Int) ≤ s[k].toNat := by omega
          have q2 : (s[k].toNat : Int) ≤ 57 := by omega
          have hstep : Hid (dval ((s.data.toList.drop 0).take (k - 0 + 1)) = 10 * u + (s[k].toNat - 48)) := Lib.hid (by rw [take_drop_byte s 0 k hlt2 hk1, dval_step, hud.out])
          by_cases hbig : (9223372036854775807 - ((s[k].toNat : Int) - 48)) / 10 < (u : Int)
          · have Hr := Lib.hid (show intRes s.data.toList = .tuple #[vz, .int .i64 1] by
              have hge := dval_take (s.data.toList.drop 0) (k - 0 + 1)
              rw [hstep.out] at hge
              have hni : inI (ival s.data.toList) = false := by
                rw [HI.out]
                cases hc : inI ((dval (s.data.toList.drop 0) : Int))
                · rfl
                · rw [inI_iff] at hc; omega
              unfold intRes
              rw [HW.out, Hall.out, hni]; rfl)
            go_wp2_with fail
            exact bodyPost_ret (v := .tuple #[vz, .int .i64 1]) (by simp [results, Tryz.results22, go_sem, c0, c1, c2]) rfl ⟨by rw [Hr.out], below_store3 hz4.below (Nat.le_refl _) _ _ _⟩
          · have hsm : (u : Int) ≤ (9223372036854775807 - ((s[k].toNat : Int) - 48)) / 10 := by omega
            clear hbig
            go_wp2_with fail
            go_roundw
            case rel => exact ⟨k + 1, 10 * u + (s[k].toNat - 48), by go_num, by first | go_num | (congr 1; omega), by omega, by omega, by omega, Lib.hid (by rw [show k + 1 - 0 = k - 0 + 1 by omega, hstep.out]), by first | exact hz4 | exact hz4.drewN _⟩
            case measure => simp [intOf]; omega
        · obtain rfl : k = s.size := by omega
          have hv : u = dval (s.data.toList.drop 0) := by rw [hud.out, take_drop_all]
          have Hr := Lib.hid (show intRes s.data.toList = .tuple #[vi ((u : Int)), .int .i64 0] by
            have hin : inI (ival s.data.toList) = true := by rw [HI.out, inI_iff]; omega
            unfold intRes
            rw [HW.out, Hall.out, hin, HI.out, ← hv]; rfl)
          clear hv
          go_wp2_with fail
          refine (refInt_is _ ((u : Int)) _ (by first | rfl | omega | (simp [wrap64, IntKind.wrap, IntKind.bits, IntKind.signed]; omega) | (unfold wrap64; simp [IntKind.wrap, IntKind.bits, IntKind.signed]; omega))).mono ?_
          rintro e w2 ⟨rfl, rfl⟩
          have hz5 := hz4.alloc (.cells #[.int .i64 2, .int .i64 ((u : Int)), .string ⟨#[]⟩] 63)
          obtain ⟨c0, c1, c2, f0, f1, f2⟩ := kept3 (b := w.heap.size) (Below.refl _ _) (by have := hz5.size; omega) hz5.blk
          go_wp2_with fail
          exact bodyPost_ret (v := .tuple #[vi ((u : Int)), .int .i64 0]) (by simp [results, Tryz.results22, go_sem, c0, c1, c2]) rfl ⟨by rw [Hr.out], below_store3 hz5.below (Nat.le_refl _) _ _ _⟩

set_option maxRecDepth 100000 in
set_option maxHeartbeats 3200000 in
theorem refRead_pos1 (s : ByteArray) (w : World) (hs : s.size ≤ 1510) (h1 : (s.toList == [78, 85, 76, 76]) = false) (h2 : (s.toList == [70, 65, 76, 83, 69]) = false) (h3 : (s.toList == [84, 82, 85, 69]) = false)
    (hz0 : 0 < s.size) (_ : ¬ ((s[0].toNat : Int)) = 39) (e45 : ((s[0].toNat : Int) == 45) = false) (e48 : ¬ ((s[0].toNat : Int)) = 48) (hz2 : (s.size : Int) < 2) (HW : Hid (wrB s.data.toList = (s.data.toList.drop 0).all digB)) (HI : Hid (ival s.data.toList = (dval (s.data.toList.drop 0) : Int))) :
    Calls Tryz.prog 22 #[.string s] w fun e w' => e = .returned (intRes s.data.toList) ∧ Below w.heap.size w w' := by
  have hz : (0 : Int) < s.size := by omega
  have hb0 : ((0 : Int) == (s.size : Int)) = false := by rw [beq_eq_false_iff_ne]; omega
  go_enter Tryz.func22, Tryz.ntmps22
  go_wp2_with fail
  go_loopw [10] (fun i wr => ∃ (k : Nat), i = .int .i64 k ∧ 0 ≤ k ∧ k ≤ s.size ∧ Hid (((s.data.toList.drop 0).take (k - 0)).all digB = true) ∧ RZ w wr) (fun i _ => s.size - (intOf i).toNat)
  case atStart => exact ⟨0, rfl, by omega, by omega, Lib.hid (by simp), RZ.begin w⟩
  case round =>
    obtain ⟨k, rfl, hk1, hk, hall, hz4⟩ := hrel
    obtain ⟨c0, c1, c2, f0, f1, f2⟩ := kept3 (b := w.heap.size) (Below.refl _ wr) (by have := hz4.size; omega) hz4.blk
    by_cases hlt : k < s.size
    · have hb256 := byte_lt s[k]
      cases hd : digB s[k] with
      | false =>
        have Hr := Lib.hid (show intRes s.data.toList = .tuple #[vz, .int .i64 2] by unfold intRes; rw [HW.out, all_false_take (take_drop_byte s 0 k hlt hk1) hd]; rfl)
        by_cases p1 : (s[k].toNat : Int) < 48
        · clear hd
          go_wp2_with fail
          exact bodyPost_ret (v := .tuple #[vz, .int .i64 2]) (by simp [results, Tryz.results22, go_sem, c0, c1, c2]) rfl ⟨by rw [Hr.out], below_store3 hz4.below (Nat.le_refl _) _ _ _⟩
        · have p2 : (57 : Int) < s[k].toNat := by simp [digB] at hd; omega
          clear hd
          go_wp2_with fail
          exact bodyPost_ret (v := .tuple #[vz, .int .i64 2]) (by simp [results, Tryz.results22, go_sem, c0, c1, c2]) rfl ⟨by rw [Hr.out], below_store3 hz4.below (Nat.le_refl _) _ _ _⟩
      | true =>
        have p1 : (48 : Int) ≤ s[k].toNat := by simp [digB] at hd; omega
        have p2 : (s[k].toNat : Int) ≤ 57 := by simp [digB] at hd; omega
        have hall2 : Hid (((s.data.toList.drop 0).take (k + 1 - 0)).all digB = true) := Lib.hid (by
          rw [show k + 1 - 0 = k - 0 + 1 by omega, take_drop_byte s 0 k hlt hk1, List.all_append, hall.out]; simp [hd])
        clear hd
        go_wp2_with fail
        go_roundw
        case rel => exact ⟨k + 1, by go_num, by omega, by omega, hall2, by first | exact hz4 | exact hz4.drewN _⟩
        case measure => simp [intOf]; omega
    · obtain rfl : k = s.size := by omega
      have Hall : Hid ((s.data.toList.drop 0).all digB = true) := Lib.hid (by have := hall.out; rwa [take_drop_all] at this)
      have Hdig : Hid (∀ j (h : j < s.size), 0 ≤ j → 48 ≤ s[j].toNat ∧ s[j].toNat ≤ 57) := Lib.hid fun j h hj => by
        have hm : s[j] ∈ s.data.toList.drop 0 := by
          have := take_drop_byte s 0 j h hj
          refine List.mem_of_mem_take (i := j - 0 + 1) ?_
          rw [this]; simp
        exact digB_iff.1 (List.all_eq_true.1 Hall.out _ hm)
      obtain ⟨wo, hwo⟩ : ∃ wo : World, wo = wr := ⟨_, rfl⟩
      clear hall
      go_wp2_with fail
      go_loopw [9, 11] (fun i v wr => ∃ (k u : Nat), i = .int .i64 k ∧ v = .int .u64 u ∧ 0 ≤ k ∧ k ≤ s.size ∧ u ≤ 9223372036854775807 ∧ Hid (u = dval ((s.data.toList.drop 0).take (k - 0))) ∧ RZ w wr) (fun i _ _ => s.size - (intOf i).toNat)
      case atStart => exact ⟨0, 0, rfl, rfl, by omega, by omega, by omega, Lib.hid (by simp [dval]), by first | exact hz4 | exact hz4.drewN _⟩
      case round =>
        clear hz4 c0 c1 c2 f0 f1 f2
        obtain ⟨k, u, rfl, rfl, hk1, hk2, hu, hud, hz4⟩ := hrel
        obtain ⟨c0, c1, c2, f0, f1, f2⟩ := kept3 (b := w.heap.size) (Below.refl _ wr) (by have := hz4.size; omega) hz4.blk
        by_cases hlt2 : k < s.size
        · obtain ⟨p1, p2⟩ := Hdig.out k hlt2 hk1
          have q1 : (48 : Int) ≤ s[k].toNat := by omega
          have q2 : (s[k].toNat : Int) ≤ 57 := by omega
          have hstep : Hid (dval ((s.data.toList.drop 0).take (k - 0 + 1)) = 10 * u + (s[k].toNat - 48)) := Lib.hid (by rw [take_drop_byte s 0 k hlt2 hk1, dval_step, hud.out])
          by_cases hbig : (9223372036854775807 - ((s[k].toNat : Int) - 48)) / 10 < (u : Int)
          · have Hr := Lib.hid (show intRes s.data.toList = .tuple #[vz, .int .i64 1] by
              have hge := dval_take (s.data.toList.drop 0) (k - 0 + 1)
              rw [hstep.out] at hge
              have hni : inI (ival s.data.toList) = false := by
                rw [HI.out]
                cases hc : inI ((dval (s.data.toList.drop 0) : Int))
                · rfl
                · rw [inI_iff] at hc; omega
              unfold intRes
              rw [HW.out, Hall.out, hni]; rfl)
            go_wp2_with fail
            exact bodyPost_ret (v := .tuple #[vz, .int .i64 1]) (by simp [results, Tryz.results22, go_sem, c0, c1, c2]) rfl ⟨by rw [Hr.out], below_store3 hz4.below (Nat.le_refl _) _ _ _⟩
          · have hsm : (u : Int) ≤ (9223372036854775807 - ((s[k].toNat : Int) - 48)) / 10 := by omega
            clear hbig
            go_wp2_with fail
            go_roundw
            case rel => exact ⟨k + 1, 10 * u + (s[k].toNat - 48), by go_num, by first | go_num | (congr 1; omega), by omega, by omega, by omega, Lib.hid (by rw [show k + 1 - 0 = k - 0 + 1 by omega, hstep.out]), by first | exact hz4 | exact hz4.drewN _⟩
            case measure => simp [intOf]; omega
        · obtain rfl : k = s.size := by omega
          have hv : u = dval (s.data.toList.drop 0) := by rw [hud.out, take_drop_all]
          have Hr := Lib.hid (show intRes s.data.toList = .tuple #[vi ((u : Int)), .int .i64 0] by
            have hin : inI (ival s.data.toList) = true := by rw [HI.out, inI_iff]; omega
            unfold intRes
            rw [HW.out, Hall.out, hin, HI.out, ← hv]; rfl)
          clear hv
          go_wp2_with fail
          refine (refInt_is _ ((u : Int)) _ (by first | rfl | omega | (simp [wrap64, IntKind.wrap, IntKind.bits, IntKind.signed]; omega) | (unfold wrap64; simp [IntKind.wrap, IntKind.bits, IntKind.signed]; omega))).mono ?_
          rintro e w2 ⟨rfl, rfl⟩
          have hz5 := hz4.alloc (.cells #[.int .i64 2, .int .i64 ((u : Int)), .string ⟨#[]⟩] 63)
          obtain ⟨c0, c1, c2, f0, f1, f2⟩ := kept3 (b := w.heap.size) (Below.refl _ _) (by have := hz5.size; omega) hz5.blk
          go_wp2_with fail
          exact bodyPost_ret (v := .tuple #[vi ((u : Int)), .int .i64 0]) (by simp [results, Tryz.results22, go_sem, c0, c1, c2]) rfl ⟨by rw [Hr.out], below_store3 hz5.below (Nat.le_refl _) _ _ _⟩

set_option maxRecDepth 100000 in
set_option maxHeartbeats 3200000 in
theorem refRead_zero (s : ByteArray) (w : World) (hs : s.size ≤ 1510) (h1 : (s.toList == [78, 85, 76, 76]) = false) (h2 : (s.toList == [70, 65, 76, 83, 69]) = false) (h3 : (s.toList == [84, 82, 85, 69]) = false)
    (hz0 : 0 < s.size) (_ : ¬ ((s[0].toNat : Int)) = 39) (_ : ((s[0].toNat : Int) == 45) = false) (e48 : ((s[0].toNat : Int)) = 48) (hz2 : (s.size : Int) < 2) (HW : Hid (wrB s.data.toList = (s.data.toList.drop 0).all digB)) (HI : Hid (ival s.data.toList = (dval (s.data.toList.drop 0) : Int))) :
    Calls Tryz.prog 22 #[.string s] w fun e w' => e = .returned (intRes s.data.toList) ∧ Below w.heap.size w w' := by
  have hz : (0 : Int) < s.size := by omega
  have hb0 : ((0 : Int) == (s.size : Int)) = false := by rw [beq_eq_false_iff_ne]; omega
  have e48b : ((s[0].toNat : Int) == 48) = true := by rw [e48]; rfl
  have hz5 : (s.size : Int) ≤ 1 := by omega
  go_enter Tryz.func22, Tryz.ntmps22
  go_wp2_with fail
  go_loopw [10] (fun i wr => ∃ (k : Nat), i = .int .i64 k ∧ 0 ≤ k ∧ k ≤ s.size ∧ Hid (((s.data.toList.drop 0).take (k - 0)).all digB = true) ∧ RZ w wr) (fun i _ => s.size - (intOf i).toNat)
  case atStart => exact ⟨0, rfl, by omega, by omega, Lib.hid (by simp), RZ.begin w⟩
  case round =>
    obtain ⟨k, rfl, hk1, hk, hall, hz4⟩ := hrel
    obtain ⟨c0, c1, c2, f0, f1, f2⟩ := kept3 (b := w.heap.size) (Below.refl _ wr) (by have := hz4.size; omega) hz4.blk
    by_cases hlt : k < s.size
    · have hb256 := byte_lt s[k]
      cases hd : digB s[k] with
      | false =>
        have Hr := Lib.hid (show intRes s.data.toList = .tuple #[vz, .int .i64 2] by unfold intRes; rw [HW.out, all_false_take (take_drop_byte s 0 k hlt hk1) hd]; rfl)
        by_cases p1 : (s[k].toNat : Int) < 48
        · clear hd
          go_wp2_with fail
          exact bodyPost_ret (v := .tuple #[vz, .int .i64 2]) (by simp [results, Tryz.results22, go_sem, c0, c1, c2]) rfl ⟨by rw [Hr.out], below_store3 hz4.below (Nat.le_refl _) _ _ _⟩
        · have p2 : (57 : Int) < s[k].toNat := by simp [digB] at hd; omega
          clear hd
          go_wp2_with fail
          exact bodyPost_ret (v := .tuple #[vz, .int .i64 2]) (by simp [results, Tryz.results22, go_sem, c0, c1, c2]) rfl ⟨by rw [Hr.out], below_store3 hz4.below (Nat.le_refl _) _ _ _⟩
      | true =>
        have p1 : (48 : Int) ≤ s[k].toNat := by simp [digB] at hd; omega
        have p2 : (s[k].toNat : Int) ≤ 57 := by simp [digB] at hd; omega
        have hall2 : Hid (((s.data.toList.drop 0).take (k + 1 - 0)).all digB = true) := Lib.hid (by
          rw [show k + 1 - 0 = k - 0 + 1 by omega, take_drop_byte s 0 k hlt hk1, List.all_append, hall.out]; simp [hd])
        clear hd
        go_wp2_with fail
        go_roundw
        case rel => exact ⟨k + 1, by go_num, by omega, by omega, hall2, by first | exact hz4 | exact hz4.drewN _⟩
        case measure => simp [intOf]; omega
    · obtain rfl : k = s.size := by omega
      have Hall : Hid ((s.data.toList.drop 0).all digB = true) := Lib.hid (by have := hall.out; rwa [take_drop_all] at this)
      have Hdig : Hid (∀ j (h : j < s.size), 0 ≤ j → 48 ≤ s[j].toNat ∧ s[j].toNat ≤ 57) := Lib.hid fun j h hj => by
        have hm : s[j] ∈ s.data.toList.drop 0 := by
          have := take_drop_byte s 0 j h hj
          refine List.mem_of_mem_take (i := j - 0 + 1) ?_
          rw [this]; simp
        exact digB_iff.1 (List.all_eq_true.1 Hall.out _ hm)
      obtain ⟨wo, hwo⟩ : ∃ wo : World, wo = wr := ⟨_, rfl⟩
      clear hall
      go_wp2_with fail
      go_loopw [9, 11] (fun i v wr => ∃ (k u : Nat), i = .int .i64 k ∧ v = .int .u64 u ∧ 0 ≤ k ∧ k ≤ s.size ∧ u ≤ 9223372036854775807 ∧ Hid (u = dval ((s.data.toList.drop 0).take (k - 0))) ∧ RZ w wr) (fun i _ _ => s.size - (intOf i).toNat)
      case atStart => exact ⟨0, 0, rfl, rfl, by omega, by omega, by omega, Lib.hid (by simp [dval]), by first | exact hz4 | exact hz4.drewN _⟩
      case round =>
        clear hz4 c0 c1 c2 f0 f1 f2
        obtain ⟨k, u, rfl, rfl, hk1, hk2, hu, hud, hz4⟩ := hrel
        obtain ⟨c0, c1, c2, f0, f1, f2⟩ := kept3 (b := w.heap.size) (Below.refl _ wr) (by have := hz4.size; omega) hz4.blk
        by_cases hlt2 : k < s.size
        · obtain ⟨p1, p2⟩ := Hdig.out k hlt2 hk1
          have q1 : (48 : Int) ≤ s[k].toNat := by omega
          have q2 : (s[k].toNat : Int) ≤ 57 := by omega
          have hstep : Hid (dval ((s.data.toList.drop 0).take (k - 0 + 1)) = 10 * u + (s[k].toNat - 48)) := Lib.hid (by rw [take_drop_byte s 0 k hlt2 hk1, dval_step, hud.out])
          by_cases hbig : (9223372036854775807 - ((s[k].toNat : Int) - 48)) / 10 < (u : Int)
          · have Hr := Lib.hid (show intRes s.data.toList = .tuple #[vz, .int .i64 1] by
              have hge := dval_take (s.data.toList.drop 0) (k - 0 + 1)
              rw [hstep.out] at hge
              have hni : inI (ival s.data.toList) = false := by
                rw [HI.out]
                cases hc : inI ((dval (s.data.toList.drop 0) : Int))
                · rfl
                · rw [inI_iff] at hc; omega
              unfold intRes
              rw [HW.out, Hall.out, hni]; rfl)
            go_wp2_with fail
            exact bodyPost_ret (v := .tuple #[vz, .int .i64 1]) (by simp [results, Tryz.results22, go_sem, c0, c1, c2]) rfl ⟨by rw [Hr.out], below_store3 hz4.below (Nat.le_refl _) _ _ _⟩
          · have hsm : (u : Int) ≤ (9223372036854775807 - ((s[k].toNat : Int) - 48)) / 10 := by omega
            clear hbig
            go_wp2_with fail
            go_roundw
            case rel => exact ⟨k + 1, 10 * u + (s[k].toNat - 48), by go_num, by first | go_num | (congr 1; omega), by omega, by omega, by omega, Lib.hid (by rw [show k + 1 - 0 = k - 0 + 1 by omega, hstep.out]), by first | exact hz4 | exact hz4.drewN _⟩
            case measure => simp [intOf]; omega
        · obtain rfl : k = s.size := by omega
          have hv : u = dval (s.data.toList.drop 0) := by rw [hud.out, take_drop_all]
          have Hr := Lib.hid (show intRes s.data.toList = .tuple #[vi ((u : Int)), .int .i64 0] by
            have hin : inI (ival s.data.toList) = true := by rw [HI.out, inI_iff]; omega
            unfold intRes
            rw [HW.out, Hall.out, hin, HI.out, ← hv]; rfl)
          clear hv
          go_wp2_with fail
          refine (refInt_is _ ((u : Int)) _ (by first | rfl | omega | (simp [wrap64, IntKind.wrap, IntKind.bits, IntKind.signed]; omega) | (unfold wrap64; simp [IntKind.wrap, IntKind.bits, IntKind.signed]; omega))).mono ?_
          rintro e w2 ⟨rfl, rfl⟩
          have hz5 := hz4.alloc (.cells #[.int .i64 2, .int .i64 ((u : Int)), .string ⟨#[]⟩] 63)
          obtain ⟨c0, c1, c2, f0, f1, f2⟩ := kept3 (b := w.heap.size) (Below.refl _ _) (by have := hz5.size; omega) hz5.blk
          go_wp2_with fail
          exact bodyPost_ret (v := .tuple #[vi ((u : Int)), .int .i64 0]) (by simp [results, Tryz.results22, go_sem, c0, c1, c2]) rfl ⟨by rw [Hr.out], below_store3 hz5.below (Nat.le_refl _) _ _ _⟩

set_option maxRecDepth 100000 in
set_option maxHeartbeats 3200000 in
theorem refRead_neg (s : ByteArray) (w : World) (hs : s.size ≤ 1510) (h1 : (s.toList == [78, 85, 76, 76]) = false) (h2 : (s.toList == [70, 65, 76, 83, 69]) = false) (h3 : (s.toList == [84, 82, 85, 69]) = false)
    (hz0 : 0 < s.size) (hz1 : 1 < s.size) (e39 : ¬ ((s[0].toNat : Int)) = 39) (e45 : ((s[0].toNat : Int) == 45) = true) (e48 : ¬ ((s[1].toNat : Int)) = 48) (HW : Hid (wrB s.data.toList = (s.data.toList.drop 1).all digB)) (HI : Hid (ival s.data.toList = -(dval (s.data.toList.drop 1) : Int))) :
    Calls Tryz.prog 22 #[.string s] w fun e w' => e = .returned (intRes s.data.toList) ∧ Below w.heap.size w w' := by
  have hz : (0 : Int) < s.size := by omega
  have hb0 : ((1 : Int) == (s.size : Int)) = false := by rw [beq_eq_false_iff_ne]; omega
  have hz3 : (1 : Int) < s.size := by omega
  have hz2 : (2 : Int) ≤ s.size := by omega
  go_enter Tryz.func22, Tryz.ntmps22
  go_wp2_with fail
  go_loopw [10] (fun i wr => ∃ (k : Nat), i = .int .i64 k ∧ 1 ≤ k ∧ k ≤ s.size ∧ Hid (((s.data.toList.drop 1).take (k - 1)).all digB = true) ∧ RZ w wr) (fun i _ => s.size - (intOf i).toNat)
  case atStart => exact ⟨1, rfl, by omega, by omega, Lib.hid (by simp), RZ.begin w⟩
  case round =>
    obtain ⟨k, rfl, hk1, hk, hall, hz4⟩ := hrel
    obtain ⟨c0, c1, c2, f0, f1, f2⟩ := kept3 (b := w.heap.size) (Below.refl _ wr) (by have := hz4.size; omega) hz4.blk
    by_cases hlt : k < s.size
    · have hb256 := byte_lt s[k]
      cases hd : digB s[k] with
      | false =>
        have Hr := Lib.hid (show intRes s.data.toList = .tuple #[vz, .int .i64 2] by unfold intRes; rw [HW.out, all_false_take (take_drop_byte s 1 k hlt hk1) hd]; rfl)
        by_cases p1 : (s[k].toNat : Int) < 48
        · clear hd
          go_wp2_with fail
          exact bodyPost_ret (v := .tuple #[vz, .int .i64 2]) (by simp [results, Tryz.results22, go_sem, c0, c1, c2]) rfl ⟨by rw [Hr.out], below_store3 hz4.below (Nat.le_refl _) _ _ _⟩
        · have p2 : (57 : Int) < s[k].toNat := by simp [digB] at hd; omega
          clear hd
          go_wp2_with fail
          exact bodyPost_ret (v := .tuple #[vz, .int .i64 2]) (by simp [results, Tryz.results22, go_sem, c0, c1, c2]) rfl ⟨by rw [Hr.out], below_store3 hz4.below (Nat.le_refl _) _ _ _⟩
      | true =>
        have p1 : (48 : Int) ≤ s[k].toNat := by simp [digB] at hd; omega
        have p2 : (s[k].toNat : Int) ≤ 57 := by simp [digB] at hd; omega
        have hall2 : Hid (((s.data.toList.drop 1).take (k + 1 - 1)).all digB = true) := Lib.hid (by
          rw [show k + 1 - 1 = k - 1 + 1 by omega, take_drop_byte s 1 k hlt hk1, List.all_append, hall.out]; simp [hd])
        clear hd
        go_wp2_with fail
        go_roundw
        case rel => exact ⟨k + 1, by go_num, by omega, by omega, hall2, by first | exact hz4 | exact hz4.drewN _⟩
        case measure => simp [intOf]; omega
    · obtain rfl : k = s.size := by omega
      have Hall : Hid ((s.data.toList.drop 1).all digB = true) := Lib.hid (by have := hall.out; rwa [take_drop_all] at this)
      have Hdig : Hid (∀ j (h : j < s.size), 1 ≤ j → 48 ≤ s[j].toNat ∧ s[j].toNat ≤ 57) := Lib.hid fun j h hj => by
        have hm : s[j] ∈ s.data.toList.drop 1 := by
          have := take_drop_byte s 1 j h hj
          refine List.mem_of_mem_take (i := j - 1 + 1) ?_
          rw [this]; simp
        exact digB_iff.1 (List.all_eq_true.1 Hall.out _ hm)
      obtain ⟨wo, hwo⟩ : ∃ wo : World, wo = wr := ⟨_, rfl⟩
      clear hall
      go_wp2_with fail
      go_loopw [9, 11] (fun i v wr => ∃ (k u : Nat), i = .int .i64 k ∧ v = .int .u64 u ∧ 1 ≤ k ∧ k ≤ s.size ∧ u ≤ 9223372036854775808 ∧ Hid (u = dval ((s.data.toList.drop 1).take (k - 1))) ∧ RZ w wr) (fun i _ _ => s.size - (intOf i).toNat)
      case atStart => exact ⟨1, 0, rfl, rfl, by omega, by omega, by omega, Lib.hid (by simp [dval]), by first | exact hz4 | exact hz4.drewN _⟩
      case round =>
        clear hz4 c0 c1 c2 f0 f1 f2
        obtain ⟨k, u, rfl, rfl, hk1, hk2, hu, hud, hz4⟩ := hrel
        obtain ⟨c0, c1, c2, f0, f1, f2⟩ := kept3 (b := w.heap.size) (Below.refl _ wr) (by have := hz4.size; omega) hz4.blk
        by_cases hlt2 : k < s.size
        · obtain ⟨p1, p2⟩ := Hdig.out k hlt2 hk1
          have q1 : (48 : Int) ≤ s[k].toNat := by omega
          have q2 : (s[k].toNat : Int) ≤ 57 := by omega
          have hstep : Hid (dval ((s.data.toList.drop 1).take (k - 1 + 1)) = 10 * u + (s[k].toNat - 48)) := Lib.hid (by rw [take_drop_byte s 1 k hlt2 hk1, dval_step, hud.out])
          by_cases hbig : (9223372036854775808 - ((s[k].toNat : Int) - 48)) / 10 < (u : Int)
          · have Hr := Lib.hid (show intRes s.data.toList = .tuple #[vz, .int .i64 1] by
              have hge := dval_take (s.data.toList.drop 1) (k - 1 + 1)
              rw [hstep.out] at hge
              have hni : inI (ival s.data.toList) = false := by
                rw [HI.out]
                cases hc : inI (-(dval (s.data.toList.drop 1) : Int))
                · rfl
                · rw [inI_iff] at hc; omega
              unfold intRes
              rw [HW.out, Hall.out, hni]; rfl)
            go_wp2_with fail
            exact bodyPost_ret (v := .tuple #[vz, .int .i64 1]) (by simp [results, Tryz.results22, go_sem, c0, c1, c2]) rfl ⟨by rw [Hr.out], below_store3 hz4.below (Nat.le_refl _) _ _ _⟩
          · have hsm : (u : Int) ≤ (9223372036854775808 - ((s[k].toNat : Int) - 48)) / 10 := by omega
            clear hbig
            go_wp2_with fail
            go_roundw
            case rel => exact ⟨k + 1, 10 * u + (s[k].toNat - 48), by go_num, by first | go_num | (congr 1; omega), by omega, by omega, by omega, Lib.hid (by rw [show k + 1 - 1 = k - 1 + 1 by omega, hstep.out]), by first | exact hz4 | exact hz4.drewN _⟩
            case measure => simp [intOf]; omega
        · obtain rfl : k = s.size := by omega
          have hv : u = dval (s.data.toList.drop 1) := by rw [hud.out, take_drop_all]
          have Hr := Lib.hid (show intRes s.data.toList = .tuple #[vi (-(u : Int)), .int .i64 0] by
            have hin : inI (ival s.data.toList) = true := by rw [HI.out, inI_iff]; omega
            unfold intRes
            rw [HW.out, Hall.out, hin, HI.out, ← hv]; rfl)
          clear hv
          go_wp2_with fail
          refine (refInt_is _ (-(u : Int)) _ (by first | rfl | omega | (simp [wrap64, IntKind.wrap, IntKind.bits, IntKind.signed]; omega) | (unfold wrap64; simp [IntKind.wrap, IntKind.bits, IntKind.signed]; omega))).mono ?_
          rintro e w2 ⟨rfl, rfl⟩
          have hz5 := hz4.alloc (.cells #[.int .i64 2, .int .i64 (-(u : Int)), .string ⟨#[]⟩] 63)
          obtain ⟨c0, c1, c2, f0, f1, f2⟩ := kept3 (b := w.heap.size) (Below.refl _ _) (by have := hz5.size; omega) hz5.blk
          go_wp2_with fail
          exact bodyPost_ret (v := .tuple #[vi (-(u : Int)), .int .i64 0]) (by simp [results, Tryz.results22, go_sem, c0, c1, c2]) rfl ⟨by rw [Hr.out], below_store3 hz5.below (Nat.le_refl _) _ _ _⟩
end Go.Proofs.YtiahojbliaaklaaGreatDoor
