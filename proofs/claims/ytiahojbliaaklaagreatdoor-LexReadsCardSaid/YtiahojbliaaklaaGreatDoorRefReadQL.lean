/- The contract of the reference's Read: texts between quotes. (Laid by a program of ours: gen_refreadq.py.) -/
import Derived.Test.YtiahojbliaaklaaGreatDoorRefRead
namespace Go.Proofs.YtiahojbliaaklaaGreatDoor
open Go.RowKit

theorem rd_short1 : readB [92, 39] = none := readB_none (by decide) (by decide)
theorem rd_short2 (a : UInt8) : readB [92, a, 39] = none := by
  refine readB_none (by simp) ?_
  simp only [firstL, if_true, escL]
  cases hexv a <;> rfl
theorem rd_esc_bad1 {a b : UInt8} {r : List UInt8} (h : hexv a = none) : readB (92 :: a :: b :: r) = none :=
  readB_none (by simp) (by simp only [firstL, if_true, escL, h])
theorem rd_esc_bad2 {a b : UInt8} {r : List UInt8} (h : hexv b = none) : readB (92 :: a :: b :: r) = none := by
  refine readB_none (by simp) ?_
  simp only [firstL, if_true, escL, h]
  cases hexv a <;> rfl
theorem rd_esc_plain {a b : UInt8} {r : List UInt8} {x y : Nat} (h : hexv a = some x) (h' : hexv b = some y) (hp : plainB (16 * x + y) = true) : readB (92 :: a :: b :: r) = none :=
  readB_none (by simp) (by simp only [firstL, if_true, escL, h, h', hp])
theorem rd_esc_ok {a b : UInt8} {r : List UInt8} {x y : Nat} (h : hexv a = some x) (h' : hexv b = some y) (hp : plainB (16 * x + y) = false) : readB (92 :: a :: b :: r) = (readB r).map (UInt8.ofNat (16 * x + y) :: ·) :=
  readB_some (by simp) (by simp only [firstL, if_true, escL, h, h', hp, Bool.false_eq_true, if_false])
theorem rd_quote_end : readB [39, 39] = none := by
  rw [readB_some (c := 39) (r := []) (by decide) (by decide), readB_none (by simp) (by decide)]; rfl
theorem rd_quote_bad {d : UInt8} {r : List UInt8} (h : d ≠ 39) : readB (39 :: d :: r) = none :=
  readB_none (by simp) (by simp only [firstL, if_neg (show ¬ (39 : UInt8) = 92 by decide), if_true, if_neg h])
theorem rd_quote_ok {r : List UInt8} : readB (39 :: 39 :: r) = (readB r).map (39 :: ·) :=
  readB_some (by simp) (by simp only [firstL, if_neg (show ¬ (39 : UInt8) = 92 by decide), if_true])
theorem rd_bad {c : UInt8} {r : List UInt8} (h92 : c ≠ 92) (h39 : c ≠ 39) (hp : plainB c.toNat = false) : readB (c :: r) = none :=
  readB_none (fun h => h39 (List.cons.inj h).1) (by simp only [firstL, if_neg h92, if_neg h39, hp, Bool.false_eq_true, if_false])
theorem rd_plain {c : UInt8} {r : List UInt8} (h92 : c ≠ 92) (h39 : c ≠ 39) (hp : plainB c.toNat = true) : readB (c :: r) = (readB r).map (c :: ·) :=
  readB_some (fun h => h39 (List.cons.inj h).1) (by simp only [firstL, if_neg h92, if_neg h39, hp, if_true])
theorem drop_byte (s : ByteArray) (k : Nat) (h : k < s.size) : s.data.toList.drop k = s[k] :: s.data.toList.drop (k + 1) := by
  rw [List.drop_eq_getElem_cons (by simpa using h)]; rfl

/-- A slice of bytes of the call's own, over the block of an empty result. -/
structure RO (w : World) (l : List UInt8) (v : Value) (m : Nat) (wr : World) : Prop where
  own : wr.ownsRow w.heap.size 5 1 v m (Lib.byteCells l)
  len : m = l.length
  below : Below w.heap.size w wr
  size : w.heap.size + 1 ≤ wr.heap.size
  blk : wr.heap[w.heap.size]? = some (.cells #[.int .i64 0, .int .i64 0, .string ⟨#[]⟩] 63 (0, 0))
theorem RO.step {w : World} {l x : List UInt8} {v v' : Value} {m k : Nat} {wr w2 : World} {o : Obj} {news : List Value} (h : RO w l v m wr) (hx : news = Lib.byteCells x ∧ k = x.length)
    (hown : w2.ownsRow w.heap.size 5 1 v' (m + k) (Lib.byteCells l ++ news)) (hg : (wr.alloc o).grownBy w2 v.ownBlock) : RO w (l ++ x) v' (m + k) w2 := by
  have hne := Lib.ownBlock_ne h.own h.blk (by decide)
  have hs := h.size
  refine ⟨by rw [Lib.byteCells_append, ← hx.1]; exact hown, by rw [h.len, hx.2, List.length_append], (h.below.alloc (by omega) o).grown hg (by simp; omega) (fun k hk => (h.own.lt k hk).1), by have := hg.size; simp at this; omega, ?_⟩
  rw [hg.block w.heap.size (by simp; omega) (fun e => hne e.symm), Lib.alloc_old _ _ _ (by omega)]
  exact h.blk
theorem RO.drewN {w : World} {l : List UInt8} {v : Value} {m : Nat} {wr : World} (h : RO w l v m wr) (n : Nat) : RO w l v m (wr.drewN n) :=
  ⟨h.own, h.len, below_drewN h.below n, h.size, h.blk⟩
theorem RO.begin (w : World) : RO w [] (.slice none 0 0) 0 (w.alloc (.cells #[.int .i64 0, .int .i64 0, .string ⟨#[]⟩] 63)) :=
  ⟨⟨rfl, .inl ⟨rfl, rfl⟩⟩, rfl, (Below.refl _ _).alloc (Nat.le_refl _) _, by simp, heap_new _ _⟩

set_option maxRecDepth 100000 in
set_option maxHeartbeats 12800000 in
theorem refRead_quoted (s : ByteArray) (w : World) (m : List UInt8) (hl : s.data.toList = 39 :: (m ++ [39])) (hs : s.size ≤ 1510) :
    Calls Tryz.prog 22 #[.string s] w fun e w' => e = .returned (textRes (readB (m ++ [39]))) ∧ Below w.heap.size w w' := by
  have h1 : (s.toList == [78, 85, 76, 76]) = false := bytes_not (by rw [hl]; intro h; cases h)
  have h2 : (s.toList == [70, 65, 76, 83, 69]) = false := bytes_not (by rw [hl]; intro h; cases h)
  have h3 : (s.toList == [84, 82, 85, 69]) = false := bytes_not (by rw [hl]; intro h; cases h)
  have hz : s.size = m.length + 2 := by rw [size_list hl]; simp
  have hlast : s.data.toList.drop (m.length + 1) = [39] := by rw [hl]; simp
  have hf0 : 0 < s.size := by omega
  have hf1 : m.length + 1 < s.size := by omega
  have e0 : ((s[0]'hf0).toNat : Int) = 39 := by
    have := drop_byte s 0 hf0
    rw [List.drop_zero, hl] at this
    rw [← (List.cons.inj this).1]; rfl
  have e1 : (((s[m.length + 1]'hf1).toNat : Int) == 39) = true := by
    have := drop_byte s _ hf1
    rw [hlast] at this
    rw [← (List.cons.inj this).1]; rfl
  have Hlast := Lib.hid hlast
  have Hone : Hid (s.data.toList.drop 1 = m ++ [39]) := Lib.hid (by rw [hl]; rfl)
  clear hl hlast
  obtain ⟨i0, hi, hz0, hz1, hz2'⟩ := info_parts byte_info
  go_enter Tryz.func22, Tryz.ntmps22
  go_wp2_with fail
  go_loopw [5, 6] (fun v i wr => ∃ (k : Nat) (full : List UInt8) (n : Nat), i = .int .i64 k ∧ 1 ≤ k ∧ k ≤ m.length + 1 ∧ Hid (readB (m ++ [39]) = (readB (s.data.toList.drop k)).map (full ++ ·)) ∧ full.length ≤ k ∧ RO w full v n wr) (fun _ i _ => s.size - (intOf i).toNat)
  case atStart => exact ⟨1, [], 0, rfl, by omega, by omega, Lib.hid (by rw [Hone.out]; simp), by simp, RO.begin w⟩
  case round =>
    obtain ⟨k, full, n, rfl, hk1, hk, hrd, hfl, hro⟩ := hrel
    obtain ⟨ao, cap, rfl⟩ := slice_of_own hro.own
    have hn1 : n ≤ full.length := Nat.le_of_eq hro.len
    have hn2 : full.length ≤ n := Nat.le_of_eq hro.len.symm
    have hn1000 : n ≤ 1510 := by omega
    have c0 : wr.cell? ⟨w.heap.size, 0, none⟩ = some (.int .i64 0) := by rw [Lib.cell_of_heap hro.blk]; rfl
    have c1 : wr.cell? ⟨w.heap.size, 1, none⟩ = some (.int .i64 0) := by rw [Lib.cell_of_heap hro.blk]; rfl
    have c2 : wr.cell? ⟨w.heap.size, 2, none⟩ = some (.string ⟨#[]⟩) := by rw [Lib.cell_of_heap hro.blk]; rfl
    have f0 := Lib.frozen_of_heap hro.blk 0
    have f1 := Lib.frozen_of_heap hro.blk 1
    have f2 := Lib.frozen_of_heap hro.blk 2
    have hbase := hro.size
    have hbl := hro.below
    have Hro := Lib.hid hro
    clear hro
    by_cases hlt : k < m.length + 1
    · have hks : k < s.size := by omega
      have Hd : Hid (s.data.toList.drop k = s[k] :: s.data.toList.drop (k + 1)) := Lib.hid (drop_byte s k hks)
      by_cases h92 : s[k] = 92
      · have e92 : ((s[k].toNat : Int) == 92) = true := by rw [h92]; rfl
        rw [h92] at Hd
        clear h92
        by_cases hend : m.length + 1 ≤ k + 2
        · have hr : readB (s.data.toList.drop k) = none := by
            rw [Hd.out]
            by_cases hk' : k = m.length
            · rw [hk', Hlast.out]; exact rd_short1
            · rw [drop_byte s (k + 1) (by omega), show k + 1 + 1 = m.length + 1 by omega, Hlast.out]; exact rd_short2 _
          have Hr := Lib.hid (show textRes (readB (m ++ [39])) = .tuple #[vz, .int .i64 2] by rw [hrd.out, hr]; rfl)
          clear hr
          go_wp2_with fail
          exact bodyPost_ret (v := .tuple #[vz, .int .i64 2]) (by simp [results, Tryz.results22, go_sem, c0, c1, c2]) rfl ⟨by rw [Hr.out], below_store3 hbl (Nat.le_refl _) _ _ _⟩
        · have hk1s : k + 1 < s.size := by omega
          have hk2s : k + 2 < s.size := by omega
          have Hd2 : Hid (s.data.toList.drop k = 92 :: s[k + 1] :: s[k + 2] :: s.data.toList.drop (k + 3)) := Lib.hid (by rw [Hd.out, drop_byte s (k + 1) hk1s, drop_byte s (k + 2) hk2s])
          cases hx : hexv s[k + 1] with
          | none =>
            have HV1 : Hid (∀ w, Calls Tryz.prog 32 #[.int .u8 s[k + 1].toNat] w fun e w' => e = .returned (.int .u8 16) ∧ w = w') := Lib.hid fun w => by have := refValue_any s[k + 1] w; rw [hexN_none hx] at this; exact this
            have Hr := Lib.hid (show textRes (readB (m ++ [39])) = .tuple #[vz, .int .i64 2] by rw [hrd.out, Hd2.out, rd_esc_bad1 hx]; rfl)
            clear hx
            go_wp2_with fail
            refine (HV1.out _).mono ?_
            rintro e w1 ⟨rfl, rfl⟩
            go_wp2_with fail
            exact bodyPost_ret (v := .tuple #[vz, .int .i64 2]) (by simp [results, Tryz.results22, go_sem, c0, c1, c2]) rfl ⟨by rw [Hr.out], below_store3 hbl (Nat.le_refl _) _ _ _⟩
          | some x =>
            have hx16 := hexv_lt hx
            have HV1 : Hid (∀ w, Calls Tryz.prog 32 #[.int .u8 s[k + 1].toNat] w fun e w' => e = .returned (.int .u8 x) ∧ w = w') := Lib.hid fun w => by have := refValue_any s[k + 1] w; rw [hexN_some hx] at this; exact this
            cases hy : hexv s[k + 2] with
            | none =>
              have HV2 : Hid (∀ w, Calls Tryz.prog 32 #[.int .u8 s[k + 2].toNat] w fun e w' => e = .returned (.int .u8 16) ∧ w = w') := Lib.hid fun w => by have := refValue_any s[k + 2] w; rw [hexN_none hy] at this; exact this
              have Hr := Lib.hid (show textRes (readB (m ++ [39])) = .tuple #[vz, .int .i64 2] by rw [hrd.out, Hd2.out, rd_esc_bad2 hy]; rfl)
              clear hx hy
              go_wp2_with fail
              refine (HV1.out _).mono ?_
              rintro e w1 ⟨rfl, rfl⟩
              go_wp2_with fail
              refine (HV2.out _).mono ?_
              rintro e w1 ⟨rfl, rfl⟩
              go_wp2_with fail
              exact bodyPost_ret (v := .tuple #[vz, .int .i64 2]) (by simp [results, Tryz.results22, go_sem, c0, c1, c2]) rfl ⟨by rw [Hr.out], below_store3 hbl (Nat.le_refl _) _ _ _⟩
            | some y =>
              have hy16 := hexv_lt hy
              have HV2 : Hid (∀ w, Calls Tryz.prog 32 #[.int .u8 s[k + 2].toNat] w fun e w' => e = .returned (.int .u8 y) ∧ w = w') := Lib.hid fun w => by have := refValue_any s[k + 2] w; rw [hexN_some hy] at this; exact this
              have HV1q : Hid (∀ w, Calls Tryz.prog 32 #[.int .u8 s[k + 1].toNat] w fun e w' => e = .returned (.int .u8 x) ∧ w' = w) := Lib.hid fun w => (HV1.out w).mono fun _ _ ⟨a, b⟩ => ⟨a, b.symm⟩
              have HV2q : Hid (∀ w, Calls Tryz.prog 32 #[.int .u8 s[k + 2].toNat] w fun e w' => e = .returned (.int .u8 y) ∧ w' = w) := Lib.hid fun w => (HV2.out w).mono fun _ _ ⟨a, b⟩ => ⟨a, b.symm⟩
              cases hp : plainB (16 * x + y) with
              | true =>
                have Hr := Lib.hid (show textRes (readB (m ++ [39])) = .tuple #[vz, .int .i64 2] by rw [hrd.out, Hd2.out, rd_esc_plain hx hy hp]; rfl)
                have p1 : (32 : Int) ≤ 16 * x + y := by simp [plainB] at hp; omega
                have p2 : (16 : Int) * x + y ≤ 126 := by simp [plainB] at hp; omega
                have p3 : ((16 : Int) * x + y == 92) = false := by simp [plainB] at hp; rw [beq_eq_false_iff_ne]; omega
                clear hx hy hp
                go_wp2_with fail
                refine (HV1.out _).mono ?_
                rintro e w1 ⟨rfl, rfl⟩
                go_wp2_with fail
                refine (HV2.out _).mono ?_
                rintro e w1 ⟨rfl, rfl⟩
                go_wp2_with fail
                go_quiet ((first | (go_at_call 32; with_reducible exact Calls.quiet_of_same (HV1q.out _)) | (go_at_call 32; with_reducible exact Calls.quiet_of_same (HV2q.out _))))
                have Hdr := Lib.hid (Hro.out.drewN nq)
                go_wp2_with fail
                exact bodyPost_ret (v := .tuple #[vz, .int .i64 2]) (by simp [results, Tryz.results22, go_sem, c0, c1, c2]) rfl ⟨by rw [Hr.out], below_store3 (below_drewN hbl nq) (Nat.le_refl _) _ _ _⟩
              | false =>
                have Hn := Lib.hid (show readB (m ++ [39]) = ((readB (s.data.toList.drop (k + 3))).map (UInt8.ofNat (16 * x + y) :: ·)).map (full ++ ·) by rw [hrd.out, Hd2.out, rd_esc_ok hx hy hp])
                have hc : ((UInt8.ofNat (16 * x + y)).toNat : Int) = 16 * x + y := by rw [UInt8.toNat_ofNat']; omega
                have HC : Hid ([Value.int .u8 (16 * (x : Int) + y)] = Lib.byteCells [UInt8.ofNat (16 * x + y)]) := Lib.hid (by rw [← hc]; rfl)
                have hp' : ¬ ((32 : Int) ≤ 16 * x + y ∧ (16 : Int) * x + y ≤ 126 ∧ (16 : Int) * x + y ≠ 92) := by
                  rintro ⟨a, b, c⟩
                  have : plainB (16 * x + y) = true := by simp [plainB]; omega
                  rw [hp] at this; cases this
                clear hx hy hp hc
                by_cases p1 : (32 : Int) ≤ 16 * x + y
                · by_cases p2 : (16 : Int) * x + y ≤ 126
                  · have p3 : ((16 : Int) * x + y == 92) = true := by rw [beq_iff_eq]; omega
                    clear hp'
                    go_wp2_with fail
                    refine (HV1.out _).mono ?_
                    rintro e w1 ⟨rfl, rfl⟩
                    go_wp2_with fail
                    refine (HV2.out _).mono ?_
                    rintro e w1 ⟨rfl, rfl⟩
                    go_wp2_with fail
                    go_quiet ((first | (go_at_call 32; with_reducible exact Calls.quiet_of_same (HV1q.out _)) | (go_at_call 32; with_reducible exact Calls.quiet_of_same (HV2q.out _))))
                    have Hdr := Lib.hid (Hro.out.drewN nq)
                    go_wp2_with (at_builtin; refine wpList_append_own _ rfl _ _ 86 rfl w.heap.size 5 i0 (.int .u8 0) 1 1 Tryz.underlying86 hi hz0 hz1 hz2' rfl (by decide) _ _ _ rfl (Hdr.out.own.alloc _) ⟨wr.heap.size, 0, none⟩ 1 1 [.int .u8 (16 * (x : Int) + y)] rfl rfl ?c1 ?c2 ?c3 ?c4 ?c5 ?_)
                    case c1 =>
                      intro j u hj
                      match j, hj with
                      | 0, hj => simp at hj; subst hj; first | exact Lib.cell_of_heap (heap_new _ _) 0 | (simp [Addr.add]; done) | (simp [Addr.add]; exact Lib.cell_of_heap (heap_new _ _) 0)
                    case c2 => first | (intro u hu; simp at hu; subst hu; rfl) | rfl
                    case c3 => unfold maxLen; omega
                    case c4 => omega
                    case c5 => first | omega | (simp; omega)
                    intro v' w2 hown' hgrow _
                    have hro2 := Hdr.out.step (x := [UInt8.ofNat (16 * x + y)]) ⟨HC.out, rfl⟩ hown' hgrow
                    go_wp2_with fail
                    go_roundw
                    case rel => exact ⟨k + 3, full ++ [UInt8.ofNat (16 * x + y)], _, by go_num, by omega, by omega, Lib.hid (by rw [Hn.out, Option.map_map]; congr 1; funext z; simp), by rw [List.length_append, List.length_singleton]; omega, hro2⟩
                    case measure => simp [intOf]; omega
                  · have p2' : (126 : Int) < 16 * x + y := by omega
                    clear hp' p2
                    go_wp2_with fail
                    refine (HV1.out _).mono ?_
                    rintro e w1 ⟨rfl, rfl⟩
                    go_wp2_with fail
                    refine (HV2.out _).mono ?_
                    rintro e w1 ⟨rfl, rfl⟩
                    go_wp2_with fail
                    go_quiet ((first | (go_at_call 32; with_reducible exact Calls.quiet_of_same (HV1q.out _)) | (go_at_call 32; with_reducible exact Calls.quiet_of_same (HV2q.out _))))
                    have Hdr := Lib.hid (Hro.out.drewN nq)
                    go_wp2_with (at_builtin; refine wpList_append_own _ rfl _ _ 86 rfl w.heap.size 5 i0 (.int .u8 0) 1 1 Tryz.underlying86 hi hz0 hz1 hz2' rfl (by decide) _ _ _ rfl (Hdr.out.own.alloc _) ⟨wr.heap.size, 0, none⟩ 1 1 [.int .u8 (16 * (x : Int) + y)] rfl rfl ?c1 ?c2 ?c3 ?c4 ?c5 ?_)
                    case c1 =>
                      intro j u hj
                      match j, hj with
                      | 0, hj => simp at hj; subst hj; first | exact Lib.cell_of_heap (heap_new _ _) 0 | (simp [Addr.add]; done) | (simp [Addr.add]; exact Lib.cell_of_heap (heap_new _ _) 0)
                    case c2 => first | (intro u hu; simp at hu; subst hu; rfl) | rfl
                    case c3 => unfold maxLen; omega
                    case c4 => omega
                    case c5 => first | omega | (simp; omega)
                    intro v' w2 hown' hgrow _
                    have hro2 := Hdr.out.step (x := [UInt8.ofNat (16 * x + y)]) ⟨HC.out, rfl⟩ hown' hgrow
                    go_wp2_with fail
                    go_roundw
                    case rel => exact ⟨k + 3, full ++ [UInt8.ofNat (16 * x + y)], _, by go_num, by omega, by omega, Lib.hid (by rw [Hn.out, Option.map_map]; congr 1; funext z; simp), by rw [List.length_append, List.length_singleton]; omega, hro2⟩
                    case measure => simp [intOf]; omega
                · have p1' : (16 : Int) * x + y < 32 := by omega
                  clear hp' p1
                  go_wp2_with fail
                  refine (HV1.out _).mono ?_
                  rintro e w1 ⟨rfl, rfl⟩
                  go_wp2_with fail
                  refine (HV2.out _).mono ?_
                  rintro e w1 ⟨rfl, rfl⟩
                  go_wp2_with fail
                  go_quiet ((first | (go_at_call 32; with_reducible exact Calls.quiet_of_same (HV1q.out _)) | (go_at_call 32; with_reducible exact Calls.quiet_of_same (HV2q.out _))))
                  have Hdr := Lib.hid (Hro.out.drewN nq)
                  go_wp2_with (at_builtin; refine wpList_append_own _ rfl _ _ 86 rfl w.heap.size 5 i0 (.int .u8 0) 1 1 Tryz.underlying86 hi hz0 hz1 hz2' rfl (by decide) _ _ _ rfl (Hdr.out.own.alloc _) ⟨wr.heap.size, 0, none⟩ 1 1 [.int .u8 (16 * (x : Int) + y)] rfl rfl ?c1 ?c2 ?c3 ?c4 ?c5 ?_)
                  case c1 =>
                    intro j u hj
                    match j, hj with
                    | 0, hj => simp at hj; subst hj; first | exact Lib.cell_of_heap (heap_new _ _) 0 | (simp [Addr.add]; done) | (simp [Addr.add]; exact Lib.cell_of_heap (heap_new _ _) 0)
                  case c2 => first | (intro u hu; simp at hu; subst hu; rfl) | rfl
                  case c3 => unfold maxLen; omega
                  case c4 => omega
                  case c5 => first | omega | (simp; omega)
                  intro v' w2 hown' hgrow _
                  have hro2 := Hdr.out.step (x := [UInt8.ofNat (16 * x + y)]) ⟨HC.out, rfl⟩ hown' hgrow
                  go_wp2_with fail
                  go_roundw
                  case rel => exact ⟨k + 3, full ++ [UInt8.ofNat (16 * x + y)], _, by go_num, by omega, by omega, Lib.hid (by rw [Hn.out, Option.map_map]; congr 1; funext z; simp), by rw [List.length_append, List.length_singleton]; omega, hro2⟩
                  case measure => simp [intOf]; omega
      · have e92 : ((s[k].toNat : Int) == 92) = false := ne_byte 92 (fun h => h92 (UInt8.toNat_inj.1 h))
        by_cases h39 : s[k] = 39
        · have e39 : ((s[k].toNat : Int) == 39) = true := by rw [h39]; rfl
          rw [h39] at Hd
          clear h39 h92
          by_cases hend : k = m.length
          · have Hr := Lib.hid (show textRes (readB (m ++ [39])) = .tuple #[vz, .int .i64 2] by rw [hrd.out, Hd.out, hend, Hlast.out, rd_quote_end]; rfl)
            have hge : m.length ≤ k := by omega
            clear hend
            go_wp2_with fail
            exact bodyPost_ret (v := .tuple #[vz, .int .i64 2]) (by simp [results, Tryz.results22, go_sem, c0, c1, c2]) rfl ⟨by rw [Hr.out], below_store3 hbl (Nat.le_refl _) _ _ _⟩
          · have hk1s : k + 1 < s.size := by omega
            have Hd2 : Hid (s.data.toList.drop k = 39 :: s[k + 1] :: s.data.toList.drop (k + 2)) := Lib.hid (by rw [Hd.out, drop_byte s (k + 1) hk1s])
            have hk2 : k < m.length := by omega
            clear hend
            by_cases hd : s[k + 1] = 39
            · have ed : ((s[k + 1].toNat : Int) != 39) = false := by rw [hd]; rfl
              have Hn := Lib.hid (show readB (m ++ [39]) = ((readB (s.data.toList.drop (k + 2))).map (39 :: ·)).map (full ++ ·) by rw [hrd.out, Hd2.out, hd, rd_quote_ok])
              have HC : Hid ([Value.int .u8 s[k].toNat] = Lib.byteCells [39]) := Lib.hid (by rw [beq_iff_eq.1 e39]; rfl)
              clear hd
              go_wp2_with (at_builtin; refine wpList_append_own _ rfl _ _ 86 rfl w.heap.size 5 i0 (.int .u8 0) 1 1 Tryz.underlying86 hi hz0 hz1 hz2' rfl (by decide) _ _ _ rfl (Hro.out.own.alloc _) ⟨wr.heap.size, 0, none⟩ 1 1 [.int .u8 (s[k].toNat)] rfl rfl ?c1 ?c2 ?c3 ?c4 ?c5 ?_)
              case c1 =>
                intro j u hj
                match j, hj with
                | 0, hj => simp at hj; subst hj; first | exact Lib.cell_of_heap (heap_new _ _) 0 | (simp [Addr.add]; done) | (simp [Addr.add]; exact Lib.cell_of_heap (heap_new _ _) 0)
              case c2 => first | (intro u hu; simp at hu; subst hu; rfl) | rfl
              case c3 => unfold maxLen; omega
              case c4 => omega
              case c5 => first | omega | (simp; omega)
              intro v' w2 hown' hgrow _
              have hro2 := Hro.out.step (x := [39]) ⟨HC.out, rfl⟩ hown' hgrow
              go_wp2_with fail
              go_roundw
              case rel => exact ⟨k + 2, full ++ [39], _, by go_num, by omega, by omega, Lib.hid (by rw [Hn.out, Option.map_map]; congr 1; funext z; simp), by rw [List.length_append, List.length_singleton]; omega, hro2⟩
              case measure => simp [intOf]; omega
            · have ed : ((s[k + 1].toNat : Int) != 39) = true := by rw [bne_iff_ne]; intro h; exact hd (UInt8.toNat_inj.1 (show s[k + 1].toNat = 39 by omega))
              have Hr := Lib.hid (show textRes (readB (m ++ [39])) = .tuple #[vz, .int .i64 2] by rw [hrd.out, Hd2.out, rd_quote_bad hd]; rfl)
              clear hd
              go_wp2_with fail
              exact bodyPost_ret (v := .tuple #[vz, .int .i64 2]) (by simp [results, Tryz.results22, go_sem, c0, c1, c2]) rfl ⟨by rw [Hr.out], below_store3 hbl (Nat.le_refl _) _ _ _⟩
        · have e39 : ((s[k].toNat : Int) == 39) = false := ne_byte 39 (fun h => h39 (UInt8.toNat_inj.1 h))
          cases hp : plainB s[k].toNat with
          | true =>
            have Hn := Lib.hid (show readB (m ++ [39]) = ((readB (s.data.toList.drop (k + 1))).map (s[k] :: ·)).map (full ++ ·) by rw [hrd.out, Hd.out, rd_plain h92 h39 hp])
            have p1 : (32 : Int) ≤ s[k].toNat := by simp [plainB] at hp; omega
            have p2 : (s[k].toNat : Int) ≤ 126 := by simp [plainB] at hp; omega
            clear hp h92 h39
            go_wp2_with (at_builtin; refine wpList_append_own _ rfl _ _ 86 rfl w.heap.size 5 i0 (.int .u8 0) 1 1 Tryz.underlying86 hi hz0 hz1 hz2' rfl (by decide) _ _ _ rfl (Hro.out.own.alloc _) ⟨wr.heap.size, 0, none⟩ 1 1 [.int .u8 (s[k].toNat)] rfl rfl ?c1 ?c2 ?c3 ?c4 ?c5 ?_)
            case c1 =>
              intro j u hj
              match j, hj with
              | 0, hj => simp at hj; subst hj; first | exact Lib.cell_of_heap (heap_new _ _) 0 | (simp [Addr.add]; done) | (simp [Addr.add]; exact Lib.cell_of_heap (heap_new _ _) 0)
            case c2 => first | (intro u hu; simp at hu; subst hu; rfl) | rfl
            case c3 => unfold maxLen; omega
            case c4 => omega
            case c5 => first | omega | (simp; omega)
            intro v' w2 hown' hgrow _
            have hro2 := Hro.out.step (x := [s[k]]) ⟨rfl, rfl⟩ hown' hgrow
            go_wp2_with fail
            go_roundw
            case rel => exact ⟨k + 1, full ++ [s[k]], _, by go_num, by omega, by omega, Lib.hid (by rw [Hn.out, Option.map_map]; congr 1; funext z; simp), by rw [List.length_append, List.length_singleton]; omega, hro2⟩
            case measure => simp [intOf]; omega
          | false =>
            have Hr := Lib.hid (show textRes (readB (m ++ [39])) = .tuple #[vz, .int .i64 2] by rw [hrd.out, Hd.out, rd_bad h92 h39 hp]; rfl)
            have hn92 : s[k].toNat ≠ 92 := fun h => h92 (UInt8.toNat_inj.1 h)
            clear h92 h39
            by_cases p1 : (s[k].toNat : Int) < 32
            · clear hp
              go_wp2_with fail
              exact bodyPost_ret (v := .tuple #[vz, .int .i64 2]) (by simp [results, Tryz.results22, go_sem, c0, c1, c2]) rfl ⟨by rw [Hr.out], below_store3 hbl (Nat.le_refl _) _ _ _⟩
            · have p2 : (126 : Int) < s[k].toNat := by simp [plainB] at hp; omega
              clear hp
              go_wp2_with fail
              exact bodyPost_ret (v := .tuple #[vz, .int .i64 2]) (by simp [results, Tryz.results22, go_sem, c0, c1, c2]) rfl ⟨by rw [Hr.out], below_store3 hbl (Nat.le_refl _) _ _ _⟩
    · obtain rfl : k = m.length + 1 := by omega
      have hr : readB (m ++ [39]) = some full := by rw [hrd.out, Hlast.out, readB_end]; simp
      by_cases hlen : full.length ≤ 60
      · have Hr := Lib.hid (show textRes (readB (m ++ [39])) = .tuple #[.agg #[.int .i64 3, .int .i64 0, .string ⟨full.toArray⟩], .int .i64 0] by rw [hr, textRes, if_pos hlen])
        have hn60 : (n : Int) ≤ 60 := by omega
        have Hcv := Lib.hid (conv_own Hro.out.own)
        clear hr hlen
        go_wp2_with fail
        rw [Hcv.out]
        simp only [Result.andThen]
        rw [Oper.upon_value]
        go_wp2_with fail
        exact bodyPost_ret (v := .tuple #[.agg #[.int .i64 3, .int .i64 0, .string ⟨full.toArray⟩], .int .i64 0]) (by simp [results, Tryz.results22, go_sem, c0, c1, c2]) rfl ⟨by rw [Hr.out], below_store3 hbl (Nat.le_refl _) _ _ _⟩
      · have Hr := Lib.hid (show textRes (readB (m ++ [39])) = .tuple #[vz, .int .i64 1] by rw [hr, textRes, if_neg hlen])
        have hn60 : (60 : Int) < n := by omega
        clear hr hlen
        go_wp2_with fail
        exact bodyPost_ret (v := .tuple #[vz, .int .i64 1]) (by simp [results, Tryz.results22, go_sem, c0, c1, c2]) rfl ⟨by rw [Hr.out], below_store3 hbl (Nat.le_refl _) _ _ _⟩
end Go.Proofs.YtiahojbliaaklaaGreatDoor
