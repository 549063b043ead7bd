import Derived.Test.YtfambadamebjjaaZs14
import Derived.Laws.EntriesVeiled
import Derived.Test.YtfambadamebjjaaZs15
set_option linter.unusedSimpArgs false
set_option linter.unusedVariables false
namespace Go.Proofs.Ytfambadamebjjaa
open Go.RowKit

theorem RwS.of {w : World} {a : Option Addr} {l : List Vl} (h : RowAt w a l) (hl : l.length ≤ 4294967296) : RwS (fun b => b < w.heap.size) w a l :=
 ⟨hl, h.2.1, h.2.2.imp id fun ⟨b, off, e, hlt, hc⟩ => ⟨b, off, e, hlt, hlt, hc⟩⟩
end Go.Proofs.Ytfambadamebjjaa
namespace Go.Proofs.Ytfambadamebjjaa
open Go.RowKit

end Go.Proofs.Ytfambadamebjjaa
namespace Go.Proofs.Ytfambadamebjjaa
open Go.RowKit

theorem rd_short1 : readB [92, 39] = none := readB_none (by decide) (by decide)
theorem rd_short2 (a : UInt8) : readB [92, a, 39] = none := by
 refine readB_none (by simp) ?_
 simp only [firstL, if_true, escL]
 cases hexv a <;> rfl
theorem rd_esc_bad1 {a b : UInt8} {r : List UInt8} (h : hexv a = none) : readB (92 :: a :: b :: r) = none :=
 readB_none (by simp) (by simp only [firstL, if_true, escL, h])
theorem rd_esc_bad2 {a b : UInt8} {r : List UInt8} (h : hexv b = none) : readB (92 :: a :: b :: r) = none := by
 refine readB_none (by simp) ?_
 simp only [firstL, if_true, escL, h]
 cases hexv a <;> rfl
theorem rd_esc_plain {a b : UInt8} {r : List UInt8} {x y : Nat} (h : hexv a = some x) (h' : hexv b = some y) (hp : plainB (16 * x + y) = true) : readB (92 :: a :: b :: r) = none :=
 readB_none (by simp) (by simp only [firstL, if_true, escL, h, h', hp])
theorem rd_esc_ok {a b : UInt8} {r : List UInt8} {x y : Nat} (h : hexv a = some x) (h' : hexv b = some y) (hp : plainB (16 * x + y) = false) : readB (92 :: a :: b :: r) = (readB r).map (UInt8.ofNat (16 * x + y) :: ·) :=
 readB_some (by simp) (by simp only [firstL, if_true, escL, h, h', hp, Bool.false_eq_true, if_false])
theorem rd_quote_end : readB [39, 39] = none := by
 rw [readB_some (c := 39) (r := []) (by decide) (by decide), readB_none (by simp) (by decide)]; rfl
theorem rd_quote_bad {d : UInt8} {r : List UInt8} (h : d ≠ 39) : readB (39 :: d :: r) = none :=
 readB_none (by simp) (by simp only [firstL, if_neg (show ¬ (39 : UInt8) = 92 by decide), if_true, if_neg h])
theorem rd_quote_ok {r : List UInt8} : readB (39 :: 39 :: r) = (readB r).map (39 :: ·) :=
 readB_some (by simp) (by simp only [firstL, if_neg (show ¬ (39 : UInt8) = 92 by decide), if_true])
theorem rd_bad {c : UInt8} {r : List UInt8} (h92 : c ≠ 92) (h39 : c ≠ 39) (hp : plainB c.toNat = false) : readB (c :: r) = none :=
 readB_none (fun h => h39 (List.cons.inj h).1) (by simp only [firstL, if_neg h92, if_neg h39, hp, Bool.false_eq_true, if_false])
theorem rd_plain {c : UInt8} {r : List UInt8} (h92 : c ≠ 92) (h39 : c ≠ 39) (hp : plainB c.toNat = true) : readB (c :: r) = (readB r).map (c :: ·) :=
 readB_some (fun h => h39 (List.cons.inj h).1) (by simp only [firstL, if_neg h92, if_neg h39, hp, if_true])
theorem drop_byte (s : ByteArray) (k : Nat) (h : k < s.size) : s.data.toList.drop k = s[k] :: s.data.toList.drop (k + 1) := by
 rw [List.drop_eq_getElem_cons (by simpa using h)]; rfl

structure RO (w : World) (l : List UInt8) (v : Value) (m : Nat) (wr : World) : Prop where
 own : wr.ownsRow w.heap.size 5 1 v m (Lib.byteCells l)
 len : m = l.length
 below : Below w.heap.size w wr
 size : w.heap.size + 1 ≤ wr.heap.size
 blk : wr.heap[w.heap.size]? = some (.cells #[.int .i64 0, .int .i64 0, .string ⟨#[]⟩] 31 (0, 0))
theorem RO.step {w : World} {l x : List UInt8} {v v' : Value} {m k : Nat} {wr w2 : World} {o : Obj} {news : List Value} (h : RO w l v m wr) (hx : news = Lib.byteCells x ∧ k = x.length)
  (hown : w2.ownsRow w.heap.size 5 1 v' (m + k) (Lib.byteCells l ++ news)) (hg : (wr.alloc o).grownBy w2 v.ownBlock) : RO w (l ++ x) v' (m + k) w2 := by
 have hne := Lib.ownBlock_ne h.own h.blk (by decide)
 have hs := h.size
 refine ⟨by rw [Lib.byteCells_append, ← hx.1]; exact hown, by rw [h.len, hx.2, List.length_append], (h.below.alloc (by omega) o).grown hg (by simp; omega) (fun k hk => (h.own.lt k hk).1), by have := hg.size; simp at this; omega, ?_⟩
 rw [hg.block w.heap.size (by simp; omega) (fun e => hne e.symm), Lib.alloc_old _ _ _ (by omega)]
 exact h.blk
theorem RO.drewN {w : World} {l : List UInt8} {v : Value} {m : Nat} {wr : World} (h : RO w l v m wr) (n : Nat) : RO w l v m (wr.drewN n) :=
 ⟨h.own, h.len, below_drewN h.below n, h.size, h.blk⟩
theorem RO.begin (w : World) : RO w [] (.slice none 0 0) 0 (w.alloc (.cells #[.int .i64 0, .int .i64 0, .string ⟨#[]⟩] 31)) :=
 ⟨⟨rfl, .inl ⟨rfl, rfl⟩⟩, rfl, (Below.refl _ _).alloc (Nat.le_refl _) _, by simp, heap_new _ _⟩

set_option maxRecDepth 100000 in
set_option maxHeartbeats 12800000 in
theorem refRead_quoted (s : ByteArray) (w : World) (m : List UInt8) (hl : s.data.toList = 39 :: (m ++ [39])) (hs : s.size ≤ 1510) :
  Calls Try.prog 40 #[.string s] w fun e w' => e = .returned (textRes (readB (m ++ [39]))) ∧ Below w.heap.size w w' := by
 have h1 : (s.toList == [78, 85, 76, 76]) = false := bytes_not (by rw [hl]; intro h; cases h)
 have h2 : (s.toList == [70, 65, 76, 83, 69]) = false := bytes_not (by rw [hl]; intro h; cases h)
 have h3 : (s.toList == [84, 82, 85, 69]) = false := bytes_not (by rw [hl]; intro h; cases h)
 have hz : s.size = m.length + 2 := by rw [size_list hl]; simp
 have hlast : s.data.toList.drop (m.length + 1) = [39] := by rw [hl]; simp
 have hf0 : 0 < s.size := by omega
 have hf1 : m.length + 1 < s.size := by omega
 have e0 : ((s[0]'hf0).toNat : Int) = 39 := by
  have := drop_byte s 0 hf0
  rw [List.drop_zero, hl] at this
  rw [← (List.cons.inj this).1]; rfl
 have e1 : (((s[m.length + 1]'hf1).toNat : Int) == 39) = true := by
  have := drop_byte s _ hf1
  rw [hlast] at this
  rw [← (List.cons.inj this).1]; rfl
 have Hlast := Lib.hid hlast
 have Hone : Hid (s.data.toList.drop 1 = m ++ [39]) := Lib.hid (by rw [hl]; rfl)
 clear hl hlast
 obtain ⟨i0, hi, hz0, hz1, hz2'⟩ := info_parts byte_info
 go_enter Try.func40, Try.ntmps40
 go_wp2_with fail
 go_loopw [5, 6] (fun v i wr => ∃ (k : Nat) (full : List UInt8) (n : Nat), i = .int .i64 k ∧ 1 ≤ k ∧ k ≤ m.length + 1 ∧ Hid (readB (m ++ [39]) = (readB (s.data.toList.drop k)).map (full ++ ·)) ∧ full.length ≤ k ∧ RO w full v n wr) (fun _ i _ => s.size - (intOf i).toNat)
 case atStart => exact ⟨1, [], 0, rfl, by omega, by omega, Lib.hid (by rw [Hone.out]; simp), by simp, RO.begin w⟩
 case round =>
  obtain ⟨k, full, n, rfl, hk1, hk, hrd, hfl, hro⟩ := hrel
  obtain ⟨ao, cap, rfl⟩ := slice_of_own hro.own
  have hn1 : n ≤ full.length := Nat.le_of_eq hro.len
  have hn2 : full.length ≤ n := Nat.le_of_eq hro.len.symm
  have hn1000 : n ≤ 1510 := by omega
  have c0 : wr.cell? ⟨w.heap.size, 0, none⟩ = some (.int .i64 0) := by rw [Lib.cell_of_heap hro.blk]; rfl
  have c1 : wr.cell? ⟨w.heap.size, 1, none⟩ = some (.int .i64 0) := by rw [Lib.cell_of_heap hro.blk]; rfl
  have c2 : wr.cell? ⟨w.heap.size, 2, none⟩ = some (.string ⟨#[]⟩) := by rw [Lib.cell_of_heap hro.blk]; rfl
  have f0 := Lib.frozen_of_heap hro.blk 0
  have f1 := Lib.frozen_of_heap hro.blk 1
  have f2 := Lib.frozen_of_heap hro.blk 2
  have hbase := hro.size
  have hbl := hro.below
  have Hro := Lib.hid hro
  clear hro
  by_cases hlt : k < m.length + 1
  ·have hks : k < s.size := by omega
   have Hd : Hid (s.data.toList.drop k = s[k] :: s.data.toList.drop (k + 1)) := Lib.hid (drop_byte s k hks)
   by_cases h92 : s[k] = 92
   ·have e92 : ((s[k].toNat : Int) == 92) = true := by rw [h92]; rfl
    rw [h92] at Hd
    clear h92
    by_cases hend : m.length + 1 ≤ k + 2
    ·have hr : readB (s.data.toList.drop k) = none := by
      rw [Hd.out]
      by_cases hk' : k = m.length
      ·rw [hk', Hlast.out]; exact rd_short1
      ·rw [drop_byte s (k + 1) (by omega), show k + 1 + 1 = m.length + 1 by omega, Hlast.out]; exact rd_short2 _
     have Hr := Lib.hid (show textRes (readB (m ++ [39])) = .tuple #[vz, .int .i64 2] by rw [hrd.out, hr]; rfl)
     clear hr
     go_wp2_with fail
     exact bodyPost_ret (v := .tuple #[vz, .int .i64 2]) (by simp [results, Try.results40, go_sem, c0, c1, c2]) rfl ⟨by rw [Hr.out], below_store3 hbl (Nat.le_refl _) _ _ _⟩
    ·have hk1s : k + 1 < s.size := by omega
     have hk2s : k + 2 < s.size := by omega
     have Hd2 : Hid (s.data.toList.drop k = 92 :: s[k + 1] :: s[k + 2] :: s.data.toList.drop (k + 3)) := Lib.hid (by rw [Hd.out, drop_byte s (k + 1) hk1s, drop_byte s (k + 2) hk2s])
     cases hx : hexv s[k + 1] with
     | none =>
      have HV1 : Hid (∀ w, Calls Try.prog 54 #[.int .u8 s[k + 1].toNat] w fun e w' => e = .returned (.int .u8 16) ∧ w = w') := Lib.hid fun w => by have := refValue_any s[k + 1] w; rw [hexN_none hx] at this; exact this
      have Hr := Lib.hid (show textRes (readB (m ++ [39])) = .tuple #[vz, .int .i64 2] by rw [hrd.out, Hd2.out, rd_esc_bad1 hx]; rfl)
      clear hx
      go_wp2_with fail
      refine (HV1.out _).mono ?_
      rintro e w1 ⟨rfl, rfl⟩
      go_wp2_with fail
      exact bodyPost_ret (v := .tuple #[vz, .int .i64 2]) (by simp [results, Try.results40, go_sem, c0, c1, c2]) rfl ⟨by rw [Hr.out], below_store3 hbl (Nat.le_refl _) _ _ _⟩
     | some x =>
      have hx16 := hexv_lt hx
      have HV1 : Hid (∀ w, Calls Try.prog 54 #[.int .u8 s[k + 1].toNat] w fun e w' => e = .returned (.int .u8 x) ∧ w = w') := Lib.hid fun w => by have := refValue_any s[k + 1] w; rw [hexN_some hx] at this; exact this
      cases hy : hexv s[k + 2] with
      | none =>
       have HV2 : Hid (∀ w, Calls Try.prog 54 #[.int .u8 s[k + 2].toNat] w fun e w' => e = .returned (.int .u8 16) ∧ w = w') := Lib.hid fun w => by have := refValue_any s[k + 2] w; rw [hexN_none hy] at this; exact this
       have Hr := Lib.hid (show textRes (readB (m ++ [39])) = .tuple #[vz, .int .i64 2] by rw [hrd.out, Hd2.out, rd_esc_bad2 hy]; rfl)
       clear hx hy
       go_wp2_with fail
       refine (HV1.out _).mono ?_
       rintro e w1 ⟨rfl, rfl⟩
       go_wp2_with fail
       refine (HV2.out _).mono ?_
       rintro e w1 ⟨rfl, rfl⟩
       go_wp2_with fail
       exact bodyPost_ret (v := .tuple #[vz, .int .i64 2]) (by simp [results, Try.results40, go_sem, c0, c1, c2]) rfl ⟨by rw [Hr.out], below_store3 hbl (Nat.le_refl _) _ _ _⟩
      | some y =>
       have hy16 := hexv_lt hy
       have HV2 : Hid (∀ w, Calls Try.prog 54 #[.int .u8 s[k + 2].toNat] w fun e w' => e = .returned (.int .u8 y) ∧ w = w') := Lib.hid fun w => by have := refValue_any s[k + 2] w; rw [hexN_some hy] at this; exact this
       have HV1q : Hid (∀ w, Calls Try.prog 54 #[.int .u8 s[k + 1].toNat] w fun e w' => e = .returned (.int .u8 x) ∧ w' = w) := Lib.hid fun w => (HV1.out w).mono fun _ _ ⟨a, b⟩ => ⟨a, b.symm⟩
       have HV2q : Hid (∀ w, Calls Try.prog 54 #[.int .u8 s[k + 2].toNat] w fun e w' => e = .returned (.int .u8 y) ∧ w' = w) := Lib.hid fun w => (HV2.out w).mono fun _ _ ⟨a, b⟩ => ⟨a, b.symm⟩
       cases hp : plainB (16 * x + y) with
       | true =>
        have Hr := Lib.hid (show textRes (readB (m ++ [39])) = .tuple #[vz, .int .i64 2] by rw [hrd.out, Hd2.out, rd_esc_plain hx hy hp]; rfl)
        have p1 : (32 : Int) ≤ 16 * x + y := by simp [plainB] at hp; omega
        have p2 : (16 : Int) * x + y ≤ 126 := by simp [plainB] at hp; omega
        have p3 : ((16 : Int) * x + y == 92) = false := by simp [plainB] at hp; rw [beq_eq_false_iff_ne]; omega
        clear hx hy hp
        go_wp2_with fail
        refine (HV1.out _).mono ?_
        rintro e w1 ⟨rfl, rfl⟩
        go_wp2_with fail
        refine (HV2.out _).mono ?_
        rintro e w1 ⟨rfl, rfl⟩
        go_wp2_with fail
        go_quiet ((first | (go_at_call 54; with_reducible exact Calls.quiet_of_same (HV1q.out _)) | (go_at_call 54; with_reducible exact Calls.quiet_of_same (HV2q.out _))))
        have Hdr := Lib.hid (Hro.out.drewN nq)
        go_wp2_with fail
        exact bodyPost_ret (v := .tuple #[vz, .int .i64 2]) (by simp [results, Try.results40, go_sem, c0, c1, c2]) rfl ⟨by rw [Hr.out], below_store3 (below_drewN hbl nq) (Nat.le_refl _) _ _ _⟩
       | false =>
        have Hn := Lib.hid (show readB (m ++ [39]) = ((readB (s.data.toList.drop (k + 3))).map (UInt8.ofNat (16 * x + y) :: ·)).map (full ++ ·) by rw [hrd.out, Hd2.out, rd_esc_ok hx hy hp])
        have hc : ((UInt8.ofNat (16 * x + y)).toNat : Int) = 16 * x + y := by rw [UInt8.toNat_ofNat']; omega
        have HC : Hid ([Value.int .u8 (16 * (x : Int) + y)] = Lib.byteCells [UInt8.ofNat (16 * x + y)]) := Lib.hid (by rw [← hc]; rfl)
        have hp' : ¬ ((32 : Int) ≤ 16 * x + y ∧ (16 : Int) * x + y ≤ 126 ∧ (16 : Int) * x + y ≠ 92) := by
         rintro ⟨a, b, c⟩
         have : plainB (16 * x + y) = true := by simp [plainB]; omega
         rw [hp] at this; cases this
        clear hx hy hp hc
        by_cases p1 : (32 : Int) ≤ 16 * x + y
        ·by_cases p2 : (16 : Int) * x + y ≤ 126
         ·have p3 : ((16 : Int) * x + y == 92) = true := by rw [beq_iff_eq]; omega
          clear hp'
          go_wp2_with fail
          refine (HV1.out _).mono ?_
          rintro e w1 ⟨rfl, rfl⟩
          go_wp2_with fail
          refine (HV2.out _).mono ?_
          rintro e w1 ⟨rfl, rfl⟩
          go_wp2_with fail
          go_quiet ((first | (go_at_call 54; with_reducible exact Calls.quiet_of_same (HV1q.out _)) | (go_at_call 54; with_reducible exact Calls.quiet_of_same (HV2q.out _))))
          have Hdr := Lib.hid (Hro.out.drewN nq)
          go_wp2_with (at_builtin; refine wpList_append_own _ rfl _ _ 124 rfl w.heap.size 5 i0 (.int .u8 0) 1 1 Try.underlying124 hi hz0 hz1 hz2' rfl (by decide) _ _ _ rfl (Hdr.out.own.alloc _) ⟨wr.heap.size, 0, none⟩ 1 1 [.int .u8 (16 * (x : Int) + y)] rfl rfl ?c1 ?c2 ?c3 ?c4 ?c5 ?_)
          case c1 =>
           intro j u hj
           match j, hj with
           | 0, hj => simp at hj; subst hj; first | exact Lib.cell_of_heap (heap_new _ _) 0 | (simp [Addr.add]; done) | (simp [Addr.add]; exact Lib.cell_of_heap (heap_new _ _) 0)
          case c2 => first | (intro u hu; simp at hu; subst hu; rfl) | rfl
          case c3 => unfold maxLen; omega
          case c4 => omega
          case c5 => first | omega | (simp; omega)
          intro v' w2 hown' hgrow _
          have hro2 := Hdr.out.step (x := [UInt8.ofNat (16 * x + y)]) ⟨HC.out, rfl⟩ hown' hgrow
          go_wp2_with fail
          go_roundw
          case rel => exact ⟨k + 3, full ++ [UInt8.ofNat (16 * x + y)], _, by go_num, by omega, by omega, Lib.hid (by rw [Hn.out, Option.map_map]; congr 1; funext z; simp), by rw [List.length_append, List.length_singleton]; omega, hro2⟩
          case measure => simp [intOf]; omega
         ·have p2' : (126 : Int) < 16 * x + y := by omega
          clear hp' p2
          go_wp2_with fail
          refine (HV1.out _).mono ?_
          rintro e w1 ⟨rfl, rfl⟩
          go_wp2_with fail
          refine (HV2.out _).mono ?_
          rintro e w1 ⟨rfl, rfl⟩
          go_wp2_with fail
          go_quiet ((first | (go_at_call 54; with_reducible exact Calls.quiet_of_same (HV1q.out _)) | (go_at_call 54; with_reducible exact Calls.quiet_of_same (HV2q.out _))))
          have Hdr := Lib.hid (Hro.out.drewN nq)
          go_wp2_with (at_builtin; refine wpList_append_own _ rfl _ _ 124 rfl w.heap.size 5 i0 (.int .u8 0) 1 1 Try.underlying124 hi hz0 hz1 hz2' rfl (by decide) _ _ _ rfl (Hdr.out.own.alloc _) ⟨wr.heap.size, 0, none⟩ 1 1 [.int .u8 (16 * (x : Int) + y)] rfl rfl ?c1 ?c2 ?c3 ?c4 ?c5 ?_)
          case c1 =>
           intro j u hj
           match j, hj with
           | 0, hj => simp at hj; subst hj; first | exact Lib.cell_of_heap (heap_new _ _) 0 | (simp [Addr.add]; done) | (simp [Addr.add]; exact Lib.cell_of_heap (heap_new _ _) 0)
          case c2 => first | (intro u hu; simp at hu; subst hu; rfl) | rfl
          case c3 => unfold maxLen; omega
          case c4 => omega
          case c5 => first | omega | (simp; omega)
          intro v' w2 hown' hgrow _
          have hro2 := Hdr.out.step (x := [UInt8.ofNat (16 * x + y)]) ⟨HC.out, rfl⟩ hown' hgrow
          go_wp2_with fail
          go_roundw
          case rel => exact ⟨k + 3, full ++ [UInt8.ofNat (16 * x + y)], _, by go_num, by omega, by omega, Lib.hid (by rw [Hn.out, Option.map_map]; congr 1; funext z; simp), by rw [List.length_append, List.length_singleton]; omega, hro2⟩
          case measure => simp [intOf]; omega
        ·have p1' : (16 : Int) * x + y < 32 := by omega
         clear hp' p1
         go_wp2_with fail
         refine (HV1.out _).mono ?_
         rintro e w1 ⟨rfl, rfl⟩
         go_wp2_with fail
         refine (HV2.out _).mono ?_
         rintro e w1 ⟨rfl, rfl⟩
         go_wp2_with fail
         go_quiet ((first | (go_at_call 54; with_reducible exact Calls.quiet_of_same (HV1q.out _)) | (go_at_call 54; with_reducible exact Calls.quiet_of_same (HV2q.out _))))
         have Hdr := Lib.hid (Hro.out.drewN nq)
         go_wp2_with (at_builtin; refine wpList_append_own _ rfl _ _ 124 rfl w.heap.size 5 i0 (.int .u8 0) 1 1 Try.underlying124 hi hz0 hz1 hz2' rfl (by decide) _ _ _ rfl (Hdr.out.own.alloc _) ⟨wr.heap.size, 0, none⟩ 1 1 [.int .u8 (16 * (x : Int) + y)] rfl rfl ?c1 ?c2 ?c3 ?c4 ?c5 ?_)
         case c1 =>
          intro j u hj
          match j, hj with
          | 0, hj => simp at hj; subst hj; first | exact Lib.cell_of_heap (heap_new _ _) 0 | (simp [Addr.add]; done) | (simp [Addr.add]; exact Lib.cell_of_heap (heap_new _ _) 0)
         case c2 => first | (intro u hu; simp at hu; subst hu; rfl) | rfl
         case c3 => unfold maxLen; omega
         case c4 => omega
         case c5 => first | omega | (simp; omega)
         intro v' w2 hown' hgrow _
         have hro2 := Hdr.out.step (x := [UInt8.ofNat (16 * x + y)]) ⟨HC.out, rfl⟩ hown' hgrow
         go_wp2_with fail
         go_roundw
         case rel => exact ⟨k + 3, full ++ [UInt8.ofNat (16 * x + y)], _, by go_num, by omega, by omega, Lib.hid (by rw [Hn.out, Option.map_map]; congr 1; funext z; simp), by rw [List.length_append, List.length_singleton]; omega, hro2⟩
         case measure => simp [intOf]; omega
   ·have e92 : ((s[k].toNat : Int) == 92) = false := ne_byte 92 (fun h => h92 (UInt8.toNat_inj.1 h))
    by_cases h39 : s[k] = 39
    ·have e39 : ((s[k].toNat : Int) == 39) = true := by rw [h39]; rfl
     rw [h39] at Hd
     clear h39 h92
     by_cases hend : k = m.length
     ·have Hr := Lib.hid (show textRes (readB (m ++ [39])) = .tuple #[vz, .int .i64 2] by rw [hrd.out, Hd.out, hend, Hlast.out, rd_quote_end]; rfl)
      have hge : m.length ≤ k := by omega
      clear hend
      go_wp2_with fail
      exact bodyPost_ret (v := .tuple #[vz, .int .i64 2]) (by simp [results, Try.results40, go_sem, c0, c1, c2]) rfl ⟨by rw [Hr.out], below_store3 hbl (Nat.le_refl _) _ _ _⟩
     ·have hk1s : k + 1 < s.size := by omega
      have Hd2 : Hid (s.data.toList.drop k = 39 :: s[k + 1] :: s.data.toList.drop (k + 2)) := Lib.hid (by rw [Hd.out, drop_byte s (k + 1) hk1s])
      have hk2 : k < m.length := by omega
      clear hend
      by_cases hd : s[k + 1] = 39
      ·have ed : ((s[k + 1].toNat : Int) != 39) = false := by rw [hd]; rfl
       have Hn := Lib.hid (show readB (m ++ [39]) = ((readB (s.data.toList.drop (k + 2))).map (39 :: ·)).map (full ++ ·) by rw [hrd.out, Hd2.out, hd, rd_quote_ok])
       have HC : Hid ([Value.int .u8 s[k].toNat] = Lib.byteCells [39]) := Lib.hid (by rw [beq_iff_eq.1 e39]; rfl)
       clear hd
       go_wp2_with (at_builtin; refine wpList_append_own _ rfl _ _ 124 rfl w.heap.size 5 i0 (.int .u8 0) 1 1 Try.underlying124 hi hz0 hz1 hz2' rfl (by decide) _ _ _ rfl (Hro.out.own.alloc _) ⟨wr.heap.size, 0, none⟩ 1 1 [.int .u8 (s[k].toNat)] rfl rfl ?c1 ?c2 ?c3 ?c4 ?c5 ?_)
       case c1 =>
        intro j u hj
        match j, hj with
        | 0, hj => simp at hj; subst hj; first | exact Lib.cell_of_heap (heap_new _ _) 0 | (simp [Addr.add]; done) | (simp [Addr.add]; exact Lib.cell_of_heap (heap_new _ _) 0)
       case c2 => first | (intro u hu; simp at hu; subst hu; rfl) | rfl
       case c3 => unfold maxLen; omega
       case c4 => omega
       case c5 => first | omega | (simp; omega)
       intro v' w2 hown' hgrow _
       have hro2 := Hro.out.step (x := [39]) ⟨HC.out, rfl⟩ hown' hgrow
       go_wp2_with fail
       go_roundw
       case rel => exact ⟨k + 2, full ++ [39], _, by go_num, by omega, by omega, Lib.hid (by rw [Hn.out, Option.map_map]; congr 1; funext z; simp), by rw [List.length_append, List.length_singleton]; omega, hro2⟩
       case measure => simp [intOf]; omega
      ·have ed : ((s[k + 1].toNat : Int) != 39) = true := by rw [bne_iff_ne]; intro h; exact hd (UInt8.toNat_inj.1 (show s[k + 1].toNat = 39 by omega))
       have Hr := Lib.hid (show textRes (readB (m ++ [39])) = .tuple #[vz, .int .i64 2] by rw [hrd.out, Hd2.out, rd_quote_bad hd]; rfl)
       clear hd
       go_wp2_with fail
       exact bodyPost_ret (v := .tuple #[vz, .int .i64 2]) (by simp [results, Try.results40, go_sem, c0, c1, c2]) rfl ⟨by rw [Hr.out], below_store3 hbl (Nat.le_refl _) _ _ _⟩
    ·have e39 : ((s[k].toNat : Int) == 39) = false := ne_byte 39 (fun h => h39 (UInt8.toNat_inj.1 h))
     cases hp : plainB s[k].toNat with
     | true =>
      have Hn := Lib.hid (show readB (m ++ [39]) = ((readB (s.data.toList.drop (k + 1))).map (s[k] :: ·)).map (full ++ ·) by rw [hrd.out, Hd.out, rd_plain h92 h39 hp])
      have p1 : (32 : Int) ≤ s[k].toNat := by simp [plainB] at hp; omega
      have p2 : (s[k].toNat : Int) ≤ 126 := by simp [plainB] at hp; omega
      clear hp h92 h39
      go_wp2_with (at_builtin; refine wpList_append_own _ rfl _ _ 124 rfl w.heap.size 5 i0 (.int .u8 0) 1 1 Try.underlying124 hi hz0 hz1 hz2' rfl (by decide) _ _ _ rfl (Hro.out.own.alloc _) ⟨wr.heap.size, 0, none⟩ 1 1 [.int .u8 (s[k].toNat)] rfl rfl ?c1 ?c2 ?c3 ?c4 ?c5 ?_)
      case c1 =>
       intro j u hj
       match j, hj with
       | 0, hj => simp at hj; subst hj; first | exact Lib.cell_of_heap (heap_new _ _) 0 | (simp [Addr.add]; done) | (simp [Addr.add]; exact Lib.cell_of_heap (heap_new _ _) 0)
      case c2 => first | (intro u hu; simp at hu; subst hu; rfl) | rfl
      case c3 => unfold maxLen; omega
      case c4 => omega
      case c5 => first | omega | (simp; omega)
      intro v' w2 hown' hgrow _
      have hro2 := Hro.out.step (x := [s[k]]) ⟨rfl, rfl⟩ hown' hgrow
      go_wp2_with fail
      go_roundw
      case rel => exact ⟨k + 1, full ++ [s[k]], _, by go_num, by omega, by omega, Lib.hid (by rw [Hn.out, Option.map_map]; congr 1; funext z; simp), by rw [List.length_append, List.length_singleton]; omega, hro2⟩
      case measure => simp [intOf]; omega
     | false =>
      have Hr := Lib.hid (show textRes (readB (m ++ [39])) = .tuple #[vz, .int .i64 2] by rw [hrd.out, Hd.out, rd_bad h92 h39 hp]; rfl)
      have hn92 : s[k].toNat ≠ 92 := fun h => h92 (UInt8.toNat_inj.1 h)
      clear h92 h39
      by_cases p1 : (s[k].toNat : Int) < 32
      ·clear hp
       go_wp2_with fail
       exact bodyPost_ret (v := .tuple #[vz, .int .i64 2]) (by simp [results, Try.results40, go_sem, c0, c1, c2]) rfl ⟨by rw [Hr.out], below_store3 hbl (Nat.le_refl _) _ _ _⟩
      ·have p2 : (126 : Int) < s[k].toNat := by simp [plainB] at hp; omega
       clear hp
       go_wp2_with fail
       exact bodyPost_ret (v := .tuple #[vz, .int .i64 2]) (by simp [results, Try.results40, go_sem, c0, c1, c2]) rfl ⟨by rw [Hr.out], below_store3 hbl (Nat.le_refl _) _ _ _⟩
  ·obtain rfl : k = m.length + 1 := by omega
   have hr : readB (m ++ [39]) = some full := by rw [hrd.out, Hlast.out, readB_end]; simp
   by_cases hlen : full.length ≤ 60
   ·have Hr := Lib.hid (show textRes (readB (m ++ [39])) = .tuple #[.agg #[.int .i64 3, .int .i64 0, .string ⟨full.toArray⟩], .int .i64 0] by rw [hr, textRes, if_pos hlen])
    have hn60 : (n : Int) ≤ 60 := by omega
    have Hcv := Lib.hid (conv_own Hro.out.own)
    clear hr hlen
    go_wp2_with fail
    rw [Hcv.out]
    simp only [Result.andThen]
    rw [Oper.upon_value]
    go_wp2_with fail
    exact bodyPost_ret (v := .tuple #[.agg #[.int .i64 3, .int .i64 0, .string ⟨full.toArray⟩], .int .i64 0]) (by simp [results, Try.results40, go_sem, c0, c1, c2]) rfl ⟨by rw [Hr.out], below_store3 hbl (Nat.le_refl _) _ _ _⟩
   ·have Hr := Lib.hid (show textRes (readB (m ++ [39])) = .tuple #[vz, .int .i64 1] by rw [hr, textRes, if_neg hlen])
    have hn60 : (60 : Int) < n := by omega
    clear hr hlen
    go_wp2_with fail
    exact bodyPost_ret (v := .tuple #[vz, .int .i64 1]) (by simp [results, Try.results40, go_sem, c0, c1, c2]) rfl ⟨by rw [Hr.out], below_store3 hbl (Nat.le_refl _) _ _ _⟩
end Go.Proofs.Ytfambadamebjjaa
namespace Go.Proofs.Ytfambadamebjjaa
open Go.RowKit

theorem dval_prefix (a b : List UInt8) : dval a ≤ dval (a ++ b) := by
 have e : dval (a ++ b) = dfrom (dval a) b := by unfold dval dfrom; rw [List.foldl_append]
 rw [e]; exact dfrom_ge _ _
theorem dval_take (t : List UInt8) (j : Nat) : dval (t.take j) ≤ dval t := by
 have := dval_prefix (t.take j) (t.drop j)
 rwa [List.take_append_drop] at this
theorem take_drop_byte (s : ByteArray) (a k : Nat) (h : k < s.size) (ha : a ≤ k) : (s.data.toList.drop a).take (k - a + 1) = (s.data.toList.drop a).take (k - a) ++ [s[k]] := by
 have hl : k - a < (s.data.toList.drop a).length := by rw [List.length_drop, ← size_list rfl]; omega
 rw [List.take_succ_eq_append_getElem hl, List.getElem_drop]
 congr 2
 have : a + (k - a) = k := by omega
 simp only [this]
 rfl
theorem take_drop_all (s : ByteArray) (a : Nat) : (s.data.toList.drop a).take (s.size - a) = s.data.toList.drop a := by
 refine List.take_of_length_le ?_
 rw [List.length_drop, ← size_list rfl]; exact Nat.le_refl _
theorem dval_step (l : List UInt8) (c : UInt8) : dval (l ++ [c]) = 10 * dval l + (c.toNat - 48) := dval_snoc l c
theorem all_false_take {t : List UInt8} {j : Nat} {c : UInt8} (h : t.take (j + 1) = t.take j ++ [c]) (hc : digB c = false) : t.all digB = false := by
 rw [← List.take_append_drop (j + 1) t, List.all_append, h, List.all_append]
 simp [hc]

structure RZ (w wr : World) : Prop where
 below : Below w.heap.size w wr
 size : w.heap.size + 1 ≤ wr.heap.size
 blk : wr.heap[w.heap.size]? = some (.cells #[.int .i64 0, .int .i64 0, .string ⟨#[]⟩] 31 (0, 0))
theorem RZ.drewN {w wr : World} (h : RZ w wr) (n : Nat) : RZ w (wr.drewN n) := ⟨below_drewN h.below n, h.size, h.blk⟩
theorem RZ.alloc {w wr : World} (h : RZ w wr) (o : Obj) : RZ w (wr.alloc o) := by
 have := h.size
 exact ⟨h.below.alloc (by omega) o, by simp; omega, by rw [Lib.alloc_old _ _ _ (by omega)]; exact h.blk⟩
theorem refInt_is (n n' : Int) (w : World) (h : n = n') :
  Calls Try.prog 43 #[.int .i64 n] w fun e w' => e = .returned (vi n') ∧ w.alloc (.cells #[.int .i64 2, .int .i64 n', .string ⟨#[]⟩] 31) = w' := by subst h; exact refInt_any n w
theorem RZ.begin (w : World) : RZ w (w.alloc (.cells #[.int .i64 0, .int .i64 0, .string ⟨#[]⟩] 31)) :=
 ⟨(Below.refl _ _).alloc (Nat.le_refl _) _, by simp, heap_new _ _⟩

set_option maxRecDepth 100000 in
set_option maxHeartbeats 3200000 in
theorem refRead_pos (s : ByteArray) (w : World) (hs : s.size ≤ 1510) (h1 : (s.toList == [78, 85, 76, 76]) = false) (h2 : (s.toList == [70, 65, 76, 83, 69]) = false) (h3 : (s.toList == [84, 82, 85, 69]) = false)
  (hz0 : 0 < s.size) (e39 : ¬ ((s[0].toNat : Int)) = 39) (e45 : ((s[0].toNat : Int) == 45) = false) (e48 : ¬ ((s[0].toNat : Int)) = 48) (hz2 : (2 : Int) ≤ s.size) (HW : Hid (wrB s.data.toList = (s.data.toList.drop 0).all digB)) (HI : Hid (ival s.data.toList = (dval (s.data.toList.drop 0) : Int))) :
  Calls Try.prog 40 #[.string s] w fun e w' => e = .returned (intRes s.data.toList) ∧ Below w.heap.size w w' := by
 have hz : (0 : Int) < s.size := by omega
 have hb0 : ((0 : Int) == (s.size : Int)) = false := by rw [beq_eq_false_iff_ne]; omega
 go_enter Try.func40, Try.ntmps40
 go_wp2_with fail
 go_loopw [10] (fun i wr => ∃ (k : Nat), i = .int .i64 k ∧ 0 ≤ k ∧ k ≤ s.size ∧ Hid (((s.data.toList.drop 0).take (k - 0)).all digB = true) ∧ RZ w wr) (fun i _ => s.size - (intOf i).toNat)
 case atStart => exact ⟨0, rfl, by omega, by omega, Lib.hid (by simp), RZ.begin w⟩
 case round =>
  obtain ⟨k, rfl, hk1, hk, hall, hz4⟩ := hrel
  obtain ⟨c0, c1, c2, f0, f1, f2⟩ := kept3 (b := w.heap.size) (Below.refl _ wr) (by have := hz4.size; omega) hz4.blk
  by_cases hlt : k < s.size
  ·have hb256 := byte_lt s[k]
   cases hd : digB s[k] with
   | false =>
    have Hr := Lib.hid (show intRes s.data.toList = .tuple #[vz, .int .i64 2] by unfold intRes; rw [HW.out, all_false_take (take_drop_byte s 0 k hlt hk1) hd]; rfl)
    by_cases p1 : (s[k].toNat : Int) < 48
    ·clear hd
     go_wp2_with fail
     exact bodyPost_ret (v := .tuple #[vz, .int .i64 2]) (by simp [results, Try.results40, go_sem, c0, c1, c2]) rfl ⟨by rw [Hr.out], below_store3 hz4.below (Nat.le_refl _) _ _ _⟩
    ·have p2 : (57 : Int) < s[k].toNat := by simp [digB] at hd; omega
     clear hd
     go_wp2_with fail
     exact bodyPost_ret (v := .tuple #[vz, .int .i64 2]) (by simp [results, Try.results40, go_sem, c0, c1, c2]) rfl ⟨by rw [Hr.out], below_store3 hz4.below (Nat.le_refl _) _ _ _⟩
   | true =>
    have p1 : (48 : Int) ≤ s[k].toNat := by simp [digB] at hd; omega
    have p2 : (s[k].toNat : Int) ≤ 57 := by simp [digB] at hd; omega
    have hall2 : Hid (((s.data.toList.drop 0).take (k + 1 - 0)).all digB = true) := Lib.hid (by
     rw [show k + 1 - 0 = k - 0 + 1 by omega, take_drop_byte s 0 k hlt hk1, List.all_append, hall.out]; simp [hd])
    clear hd
    go_wp2_with fail
    go_roundw
    case rel => exact ⟨k + 1, by go_num, by omega, by omega, hall2, by first | exact hz4 | exact hz4.drewN _⟩
    case measure => simp [intOf]; omega
  ·obtain rfl : k = s.size := by omega
   have Hall : Hid ((s.data.toList.drop 0).all digB = true) := Lib.hid (by have := hall.out; rwa [take_drop_all] at this)
   have Hdig : Hid (∀ j (h : j < s.size), 0 ≤ j → 48 ≤ s[j].toNat ∧ s[j].toNat ≤ 57) := Lib.hid fun j h hj => by
    have hm : s[j] ∈ s.data.toList.drop 0 := by
     have := take_drop_byte s 0 j h hj
     refine List.mem_of_mem_take (i := j - 0 + 1) ?_
     rw [this]; simp
    exact digB_iff.1 (List.all_eq_true.1 Hall.out _ hm)
   obtain ⟨wo, hwo⟩ : ∃ wo : World, wo = wr := ⟨_, rfl⟩
   clear hall
   go_wp2_with fail
   go_loopw [9, 11] (fun i v wr => ∃ (k u : Nat), i = .int .i64 k ∧ v = .int .u64 u ∧ 0 ≤ k ∧ k ≤ s.size ∧ u ≤ 9223372036854775807 ∧ Hid (u = dval ((s.data.toList.drop 0).take (k - 0))) ∧ RZ w wr) (fun i _ _ => s.size - (intOf i).toNat)
   case atStart => exact ⟨0, 0, rfl, rfl, by omega, by omega, by omega, Lib.hid (by simp [dval]), by first | exact hz4 | exact hz4.drewN _⟩
   case round =>
    clear hz4 c0 c1 c2 f0 f1 f2
    obtain ⟨k, u, rfl, rfl, hk1, hk2, hu, hud, hz4⟩ := hrel
    obtain ⟨c0, c1, c2, f0, f1, f2⟩ := kept3 (b := w.heap.size) (Below.refl _ wr) (by have := hz4.size; omega) hz4.blk
    by_cases hlt2 : k < s.size
    ·obtain ⟨p1, p2⟩ := Hdig.out k hlt2 hk1
     have q1 : (48 : Int) ≤ s[k].toNat := by omega
     have q2 : (s[k].toNat : Int) ≤ 57 := by omega
     have hstep : Hid (dval ((s.data.toList.drop 0).take (k - 0 + 1)) = 10 * u + (s[k].toNat - 48)) := Lib.hid (by rw [take_drop_byte s 0 k hlt2 hk1, dval_step, hud.out])
     by_cases hbig : (9223372036854775807 - ((s[k].toNat : Int) - 48)) / 10 < (u : Int)
     ·have Hr := Lib.hid (show intRes s.data.toList = .tuple #[vz, .int .i64 1] by
       have hge := dval_take (s.data.toList.drop 0) (k - 0 + 1)
       rw [hstep.out] at hge
       have hni : inI (ival s.data.toList) = false := by
        rw [HI.out]
        cases hc : inI ((dval (s.data.toList.drop 0) : Int))
        ·rfl
        ·rw [inI_iff] at hc; omega
       unfold intRes
       rw [HW.out, Hall.out, hni]; rfl)
      go_wp2_with fail
      exact bodyPost_ret (v := .tuple #[vz, .int .i64 1]) (by simp [results, Try.results40, go_sem, c0, c1, c2]) rfl ⟨by rw [Hr.out], below_store3 hz4.below (Nat.le_refl _) _ _ _⟩
     ·have hsm : (u : Int) ≤ (9223372036854775807 - ((s[k].toNat : Int) - 48)) / 10 := by omega
      clear hbig
      go_wp2_with fail
      go_roundw
      case rel => exact ⟨k + 1, 10 * u + (s[k].toNat - 48), by go_num, by first | go_num | (congr 1; omega), by omega, by omega, by omega, Lib.hid (by rw [show k + 1 - 0 = k - 0 + 1 by omega, hstep.out]), by first | exact hz4 | exact hz4.drewN _⟩
      case measure => simp [intOf]; omega
    ·obtain rfl : k = s.size := by omega
     have hv : u = dval (s.data.toList.drop 0) := by rw [hud.out, take_drop_all]
     have Hr := Lib.hid (show intRes s.data.toList = .tuple #[vi ((u : Int)), .int .i64 0] by
      have hin : inI (ival s.data.toList) = true := by rw [HI.out, inI_iff]; omega
      unfold intRes
      rw [HW.out, Hall.out, hin, HI.out, ← hv]; rfl)
     clear hv
     go_wp2_with fail
     refine (refInt_is _ ((u : Int)) _ (by first | rfl | omega | (simp [wrap64, IntKind.wrap, IntKind.bits, IntKind.signed]; omega) | (unfold wrap64; simp [IntKind.wrap, IntKind.bits, IntKind.signed]; omega))).mono ?_
     rintro e w2 ⟨rfl, rfl⟩
     have hz5 := hz4.alloc (.cells #[.int .i64 2, .int .i64 ((u : Int)), .string ⟨#[]⟩] 31)
     obtain ⟨c0, c1, c2, f0, f1, f2⟩ := kept3 (b := w.heap.size) (Below.refl _ _) (by have := hz5.size; omega) hz5.blk
     go_wp2_with fail
     exact bodyPost_ret (v := .tuple #[vi ((u : Int)), .int .i64 0]) (by simp [results, Try.results40, go_sem, c0, c1, c2]) rfl ⟨by rw [Hr.out], below_store3 hz5.below (Nat.le_refl _) _ _ _⟩

set_option maxRecDepth 100000 in
set_option maxHeartbeats 3200000 in
theorem refRead_pos1 (s : ByteArray) (w : World) (hs : s.size ≤ 1510) (h1 : (s.toList == [78, 85, 76, 76]) = false) (h2 : (s.toList == [70, 65, 76, 83, 69]) = false) (h3 : (s.toList == [84, 82, 85, 69]) = false)
  (hz0 : 0 < s.size) (_ : ¬ ((s[0].toNat : Int)) = 39) (e45 : ((s[0].toNat : Int) == 45) = false) (e48 : ¬ ((s[0].toNat : Int)) = 48) (hz2 : (s.size : Int) < 2) (HW : Hid (wrB s.data.toList = (s.data.toList.drop 0).all digB)) (HI : Hid (ival s.data.toList = (dval (s.data.toList.drop 0) : Int))) :
  Calls Try.prog 40 #[.string s] w fun e w' => e = .returned (intRes s.data.toList) ∧ Below w.heap.size w w' := by
 have hz : (0 : Int) < s.size := by omega
 have hb0 : ((0 : Int) == (s.size : Int)) = false := by rw [beq_eq_false_iff_ne]; omega
 go_enter Try.func40, Try.ntmps40
 go_wp2_with fail
 go_loopw [10] (fun i wr => ∃ (k : Nat), i = .int .i64 k ∧ 0 ≤ k ∧ k ≤ s.size ∧ Hid (((s.data.toList.drop 0).take (k - 0)).all digB = true) ∧ RZ w wr) (fun i _ => s.size - (intOf i).toNat)
 case atStart => exact ⟨0, rfl, by omega, by omega, Lib.hid (by simp), RZ.begin w⟩
 case round =>
  obtain ⟨k, rfl, hk1, hk, hall, hz4⟩ := hrel
  obtain ⟨c0, c1, c2, f0, f1, f2⟩ := kept3 (b := w.heap.size) (Below.refl _ wr) (by have := hz4.size; omega) hz4.blk
  by_cases hlt : k < s.size
  ·have hb256 := byte_lt s[k]
   cases hd : digB s[k] with
   | false =>
    have Hr := Lib.hid (show intRes s.data.toList = .tuple #[vz, .int .i64 2] by unfold intRes; rw [HW.out, all_false_take (take_drop_byte s 0 k hlt hk1) hd]; rfl)
    by_cases p1 : (s[k].toNat : Int) < 48
    ·clear hd
     go_wp2_with fail
     exact bodyPost_ret (v := .tuple #[vz, .int .i64 2]) (by simp [results, Try.results40, go_sem, c0, c1, c2]) rfl ⟨by rw [Hr.out], below_store3 hz4.below (Nat.le_refl _) _ _ _⟩
    ·have p2 : (57 : Int) < s[k].toNat := by simp [digB] at hd; omega
     clear hd
     go_wp2_with fail
     exact bodyPost_ret (v := .tuple #[vz, .int .i64 2]) (by simp [results, Try.results40, go_sem, c0, c1, c2]) rfl ⟨by rw [Hr.out], below_store3 hz4.below (Nat.le_refl _) _ _ _⟩
   | true =>
    have p1 : (48 : Int) ≤ s[k].toNat := by simp [digB] at hd; omega
    have p2 : (s[k].toNat : Int) ≤ 57 := by simp [digB] at hd; omega
    have hall2 : Hid (((s.data.toList.drop 0).take (k + 1 - 0)).all digB = true) := Lib.hid (by
     rw [show k + 1 - 0 = k - 0 + 1 by omega, take_drop_byte s 0 k hlt hk1, List.all_append, hall.out]; simp [hd])
    clear hd
    go_wp2_with fail
    go_roundw
    case rel => exact ⟨k + 1, by go_num, by omega, by omega, hall2, by first | exact hz4 | exact hz4.drewN _⟩
    case measure => simp [intOf]; omega
  ·obtain rfl : k = s.size := by omega
   have Hall : Hid ((s.data.toList.drop 0).all digB = true) := Lib.hid (by have := hall.out; rwa [take_drop_all] at this)
   have Hdig : Hid (∀ j (h : j < s.size), 0 ≤ j → 48 ≤ s[j].toNat ∧ s[j].toNat ≤ 57) := Lib.hid fun j h hj => by
    have hm : s[j] ∈ s.data.toList.drop 0 := by
     have := take_drop_byte s 0 j h hj
     refine List.mem_of_mem_take (i := j - 0 + 1) ?_
     rw [this]; simp
    exact digB_iff.1 (List.all_eq_true.1 Hall.out _ hm)
   obtain ⟨wo, hwo⟩ : ∃ wo : World, wo = wr := ⟨_, rfl⟩
   clear hall
   go_wp2_with fail
   go_loopw [9, 11] (fun i v wr => ∃ (k u : Nat), i = .int .i64 k ∧ v = .int .u64 u ∧ 0 ≤ k ∧ k ≤ s.size ∧ u ≤ 9223372036854775807 ∧ Hid (u = dval ((s.data.toList.drop 0).take (k - 0))) ∧ RZ w wr) (fun i _ _ => s.size - (intOf i).toNat)
   case atStart => exact ⟨0, 0, rfl, rfl, by omega, by omega, by omega, Lib.hid (by simp [dval]), by first | exact hz4 | exact hz4.drewN _⟩
   case round =>
    clear hz4 c0 c1 c2 f0 f1 f2
    obtain ⟨k, u, rfl, rfl, hk1, hk2, hu, hud, hz4⟩ := hrel
    obtain ⟨c0, c1, c2, f0, f1, f2⟩ := kept3 (b := w.heap.size) (Below.refl _ wr) (by have := hz4.size; omega) hz4.blk
    by_cases hlt2 : k < s.size
    ·obtain ⟨p1, p2⟩ := Hdig.out k hlt2 hk1
     have q1 : (48 : Int) ≤ s[k].toNat := by omega
     have q2 : (s[k].toNat : Int) ≤ 57 := by omega
     have hstep : Hid (dval ((s.data.toList.drop 0).take (k - 0 + 1)) = 10 * u + (s[k].toNat - 48)) := Lib.hid (by rw [take_drop_byte s 0 k hlt2 hk1, dval_step, hud.out])
     by_cases hbig : (9223372036854775807 - ((s[k].toNat : Int) - 48)) / 10 < (u : Int)
     ·have Hr := Lib.hid (show intRes s.data.toList = .tuple #[vz, .int .i64 1] by
       have hge := dval_take (s.data.toList.drop 0) (k - 0 + 1)
       rw [hstep.out] at hge
       have hni : inI (ival s.data.toList) = false := by
        rw [HI.out]
        cases hc : inI ((dval (s.data.toList.drop 0) : Int))
        ·rfl
        ·rw [inI_iff] at hc; omega
       unfold intRes
       rw [HW.out, Hall.out, hni]; rfl)
      go_wp2_with fail
      exact bodyPost_ret (v := .tuple #[vz, .int .i64 1]) (by simp [results, Try.results40, go_sem, c0, c1, c2]) rfl ⟨by rw [Hr.out], below_store3 hz4.below (Nat.le_refl _) _ _ _⟩
     ·have hsm : (u : Int) ≤ (9223372036854775807 - ((s[k].toNat : Int) - 48)) / 10 := by omega
      clear hbig
      go_wp2_with fail
      go_roundw
      case rel => exact ⟨k + 1, 10 * u + (s[k].toNat - 48), by go_num, by first | go_num | (congr 1; omega), by omega, by omega, by omega, Lib.hid (by rw [show k + 1 - 0 = k - 0 + 1 by omega, hstep.out]), by first | exact hz4 | exact hz4.drewN _⟩
      case measure => simp [intOf]; omega
    ·obtain rfl : k = s.size := by omega
     have hv : u = dval (s.data.toList.drop 0) := by rw [hud.out, take_drop_all]
     have Hr := Lib.hid (show intRes s.data.toList = .tuple #[vi ((u : Int)), .int .i64 0] by
      have hin : inI (ival s.data.toList) = true := by rw [HI.out, inI_iff]; omega
      unfold intRes
      rw [HW.out, Hall.out, hin, HI.out, ← hv]; rfl)
     clear hv
     go_wp2_with fail
     refine (refInt_is _ ((u : Int)) _ (by first | rfl | omega | (simp [wrap64, IntKind.wrap, IntKind.bits, IntKind.signed]; omega) | (unfold wrap64; simp [IntKind.wrap, IntKind.bits, IntKind.signed]; omega))).mono ?_
     rintro e w2 ⟨rfl, rfl⟩
     have hz5 := hz4.alloc (.cells #[.int .i64 2, .int .i64 ((u : Int)), .string ⟨#[]⟩] 31)
     obtain ⟨c0, c1, c2, f0, f1, f2⟩ := kept3 (b := w.heap.size) (Below.refl _ _) (by have := hz5.size; omega) hz5.blk
     go_wp2_with fail
     exact bodyPost_ret (v := .tuple #[vi ((u : Int)), .int .i64 0]) (by simp [results, Try.results40, go_sem, c0, c1, c2]) rfl ⟨by rw [Hr.out], below_store3 hz5.below (Nat.le_refl _) _ _ _⟩

set_option maxRecDepth 100000 in
set_option maxHeartbeats 3200000 in
theorem refRead_zero (s : ByteArray) (w : World) (hs : s.size ≤ 1510) (h1 : (s.toList == [78, 85, 76, 76]) = false) (h2 : (s.toList == [70, 65, 76, 83, 69]) = false) (h3 : (s.toList == [84, 82, 85, 69]) = false)
  (hz0 : 0 < s.size) (_ : ¬ ((s[0].toNat : Int)) = 39) (_ : ((s[0].toNat : Int) == 45) = false) (e48 : ((s[0].toNat : Int)) = 48) (hz2 : (s.size : Int) < 2) (HW : Hid (wrB s.data.toList = (s.data.toList.drop 0).all digB)) (HI : Hid (ival s.data.toList = (dval (s.data.toList.drop 0) : Int))) :
  Calls Try.prog 40 #[.string s] w fun e w' => e = .returned (intRes s.data.toList) ∧ Below w.heap.size w w' := by
 have hz : (0 : Int) < s.size := by omega
 have hb0 : ((0 : Int) == (s.size : Int)) = false := by rw [beq_eq_false_iff_ne]; omega
 have e48b : ((s[0].toNat : Int) == 48) = true := by rw [e48]; rfl
 have hz5 : (s.size : Int) ≤ 1 := by omega
 go_enter Try.func40, Try.ntmps40
 go_wp2_with fail
 go_loopw [10] (fun i wr => ∃ (k : Nat), i = .int .i64 k ∧ 0 ≤ k ∧ k ≤ s.size ∧ Hid (((s.data.toList.drop 0).take (k - 0)).all digB = true) ∧ RZ w wr) (fun i _ => s.size - (intOf i).toNat)
 case atStart => exact ⟨0, rfl, by omega, by omega, Lib.hid (by simp), RZ.begin w⟩
 case round =>
  obtain ⟨k, rfl, hk1, hk, hall, hz4⟩ := hrel
  obtain ⟨c0, c1, c2, f0, f1, f2⟩ := kept3 (b := w.heap.size) (Below.refl _ wr) (by have := hz4.size; omega) hz4.blk
  by_cases hlt : k < s.size
  ·have hb256 := byte_lt s[k]
   cases hd : digB s[k] with
   | false =>
    have Hr := Lib.hid (show intRes s.data.toList = .tuple #[vz, .int .i64 2] by unfold intRes; rw [HW.out, all_false_take (take_drop_byte s 0 k hlt hk1) hd]; rfl)
    by_cases p1 : (s[k].toNat : Int) < 48
    ·clear hd
     go_wp2_with fail
     exact bodyPost_ret (v := .tuple #[vz, .int .i64 2]) (by simp [results, Try.results40, go_sem, c0, c1, c2]) rfl ⟨by rw [Hr.out], below_store3 hz4.below (Nat.le_refl _) _ _ _⟩
    ·have p2 : (57 : Int) < s[k].toNat := by simp [digB] at hd; omega
     clear hd
     go_wp2_with fail
     exact bodyPost_ret (v := .tuple #[vz, .int .i64 2]) (by simp [results, Try.results40, go_sem, c0, c1, c2]) rfl ⟨by rw [Hr.out], below_store3 hz4.below (Nat.le_refl _) _ _ _⟩
   | true =>
    have p1 : (48 : Int) ≤ s[k].toNat := by simp [digB] at hd; omega
    have p2 : (s[k].toNat : Int) ≤ 57 := by simp [digB] at hd; omega
    have hall2 : Hid (((s.data.toList.drop 0).take (k + 1 - 0)).all digB = true) := Lib.hid (by
     rw [show k + 1 - 0 = k - 0 + 1 by omega, take_drop_byte s 0 k hlt hk1, List.all_append, hall.out]; simp [hd])
    clear hd
    go_wp2_with fail
    go_roundw
    case rel => exact ⟨k + 1, by go_num, by omega, by omega, hall2, by first | exact hz4 | exact hz4.drewN _⟩
    case measure => simp [intOf]; omega
  ·obtain rfl : k = s.size := by omega
   have Hall : Hid ((s.data.toList.drop 0).all digB = true) := Lib.hid (by have := hall.out; rwa [take_drop_all] at this)
   have Hdig : Hid (∀ j (h : j < s.size), 0 ≤ j → 48 ≤ s[j].toNat ∧ s[j].toNat ≤ 57) := Lib.hid fun j h hj => by
    have hm : s[j] ∈ s.data.toList.drop 0 := by
     have := take_drop_byte s 0 j h hj
     refine List.mem_of_mem_take (i := j - 0 + 1) ?_
     rw [this]; simp
    exact digB_iff.1 (List.all_eq_true.1 Hall.out _ hm)
   obtain ⟨wo, hwo⟩ : ∃ wo : World, wo = wr := ⟨_, rfl⟩
   clear hall
   go_wp2_with fail
   go_loopw [9, 11] (fun i v wr => ∃ (k u : Nat), i = .int .i64 k ∧ v = .int .u64 u ∧ 0 ≤ k ∧ k ≤ s.size ∧ u ≤ 9223372036854775807 ∧ Hid (u = dval ((s.data.toList.drop 0).take (k - 0))) ∧ RZ w wr) (fun i _ _ => s.size - (intOf i).toNat)
   case atStart => exact ⟨0, 0, rfl, rfl, by omega, by omega, by omega, Lib.hid (by simp [dval]), by first | exact hz4 | exact hz4.drewN _⟩
   case round =>
    clear hz4 c0 c1 c2 f0 f1 f2
    obtain ⟨k, u, rfl, rfl, hk1, hk2, hu, hud, hz4⟩ := hrel
    obtain ⟨c0, c1, c2, f0, f1, f2⟩ := kept3 (b := w.heap.size) (Below.refl _ wr) (by have := hz4.size; omega) hz4.blk
    by_cases hlt2 : k < s.size
    ·obtain ⟨p1, p2⟩ := Hdig.out k hlt2 hk1
     have q1 : (48 : Int) ≤ s[k].toNat := by omega
     have q2 : (s[k].toNat : Int) ≤ 57 := by omega
     have hstep : Hid (dval ((s.data.toList.drop 0).take (k - 0 + 1)) = 10 * u + (s[k].toNat - 48)) := Lib.hid (by rw [take_drop_byte s 0 k hlt2 hk1, dval_step, hud.out])
     by_cases hbig : (9223372036854775807 - ((s[k].toNat : Int) - 48)) / 10 < (u : Int)
     ·have Hr := Lib.hid (show intRes s.data.toList = .tuple #[vz, .int .i64 1] by
       have hge := dval_take (s.data.toList.drop 0) (k - 0 + 1)
       rw [hstep.out] at hge
       have hni : inI (ival s.data.toList) = false := by
        rw [HI.out]
        cases hc : inI ((dval (s.data.toList.drop 0) : Int))
        ·rfl
        ·rw [inI_iff] at hc; omega
       unfold intRes
       rw [HW.out, Hall.out, hni]; rfl)
      go_wp2_with fail
      exact bodyPost_ret (v := .tuple #[vz, .int .i64 1]) (by simp [results, Try.results40, go_sem, c0, c1, c2]) rfl ⟨by rw [Hr.out], below_store3 hz4.below (Nat.le_refl _) _ _ _⟩
     ·have hsm : (u : Int) ≤ (9223372036854775807 - ((s[k].toNat : Int) - 48)) / 10 := by omega
      clear hbig
      go_wp2_with fail
      go_roundw
      case rel => exact ⟨k + 1, 10 * u + (s[k].toNat - 48), by go_num, by first | go_num | (congr 1; omega), by omega, by omega, by omega, Lib.hid (by rw [show k + 1 - 0 = k - 0 + 1 by omega, hstep.out]), by first | exact hz4 | exact hz4.drewN _⟩
      case measure => simp [intOf]; omega
    ·obtain rfl : k = s.size := by omega
     have hv : u = dval (s.data.toList.drop 0) := by rw [hud.out, take_drop_all]
     have Hr := Lib.hid (show intRes s.data.toList = .tuple #[vi ((u : Int)), .int .i64 0] by
      have hin : inI (ival s.data.toList) = true := by rw [HI.out, inI_iff]; omega
      unfold intRes
      rw [HW.out, Hall.out, hin, HI.out, ← hv]; rfl)
     clear hv
     go_wp2_with fail
     refine (refInt_is _ ((u : Int)) _ (by first | rfl | omega | (simp [wrap64, IntKind.wrap, IntKind.bits, IntKind.signed]; omega) | (unfold wrap64; simp [IntKind.wrap, IntKind.bits, IntKind.signed]; omega))).mono ?_
     rintro e w2 ⟨rfl, rfl⟩
     have hz5 := hz4.alloc (.cells #[.int .i64 2, .int .i64 ((u : Int)), .string ⟨#[]⟩] 31)
     obtain ⟨c0, c1, c2, f0, f1, f2⟩ := kept3 (b := w.heap.size) (Below.refl _ _) (by have := hz5.size; omega) hz5.blk
     go_wp2_with fail
     exact bodyPost_ret (v := .tuple #[vi ((u : Int)), .int .i64 0]) (by simp [results, Try.results40, go_sem, c0, c1, c2]) rfl ⟨by rw [Hr.out], below_store3 hz5.below (Nat.le_refl _) _ _ _⟩

set_option maxRecDepth 100000 in
set_option maxHeartbeats 3200000 in
theorem refRead_neg (s : ByteArray) (w : World) (hs : s.size ≤ 1510) (h1 : (s.toList == [78, 85, 76, 76]) = false) (h2 : (s.toList == [70, 65, 76, 83, 69]) = false) (h3 : (s.toList == [84, 82, 85, 69]) = false)
  (hz0 : 0 < s.size) (hz1 : 1 < s.size) (e39 : ¬ ((s[0].toNat : Int)) = 39) (e45 : ((s[0].toNat : Int) == 45) = true) (e48 : ¬ ((s[1].toNat : Int)) = 48) (HW : Hid (wrB s.data.toList = (s.data.toList.drop 1).all digB)) (HI : Hid (ival s.data.toList = -(dval (s.data.toList.drop 1) : Int))) :
  Calls Try.prog 40 #[.string s] w fun e w' => e = .returned (intRes s.data.toList) ∧ Below w.heap.size w w' := by
 have hz : (0 : Int) < s.size := by omega
 have hb0 : ((1 : Int) == (s.size : Int)) = false := by rw [beq_eq_false_iff_ne]; omega
 have hz3 : (1 : Int) < s.size := by omega
 have hz2 : (2 : Int) ≤ s.size := by omega
 go_enter Try.func40, Try.ntmps40
 go_wp2_with fail
 go_loopw [10] (fun i wr => ∃ (k : Nat), i = .int .i64 k ∧ 1 ≤ k ∧ k ≤ s.size ∧ Hid (((s.data.toList.drop 1).take (k - 1)).all digB = true) ∧ RZ w wr) (fun i _ => s.size - (intOf i).toNat)
 case atStart => exact ⟨1, rfl, by omega, by omega, Lib.hid (by simp), RZ.begin w⟩
 case round =>
  obtain ⟨k, rfl, hk1, hk, hall, hz4⟩ := hrel
  obtain ⟨c0, c1, c2, f0, f1, f2⟩ := kept3 (b := w.heap.size) (Below.refl _ wr) (by have := hz4.size; omega) hz4.blk
  by_cases hlt : k < s.size
  ·have hb256 := byte_lt s[k]
   cases hd : digB s[k] with
   | false =>
    have Hr := Lib.hid (show intRes s.data.toList = .tuple #[vz, .int .i64 2] by unfold intRes; rw [HW.out, all_false_take (take_drop_byte s 1 k hlt hk1) hd]; rfl)
    by_cases p1 : (s[k].toNat : Int) < 48
    ·clear hd
     go_wp2_with fail
     exact bodyPost_ret (v := .tuple #[vz, .int .i64 2]) (by simp [results, Try.results40, go_sem, c0, c1, c2]) rfl ⟨by rw [Hr.out], below_store3 hz4.below (Nat.le_refl _) _ _ _⟩
    ·have p2 : (57 : Int) < s[k].toNat := by simp [digB] at hd; omega
     clear hd
     go_wp2_with fail
     exact bodyPost_ret (v := .tuple #[vz, .int .i64 2]) (by simp [results, Try.results40, go_sem, c0, c1, c2]) rfl ⟨by rw [Hr.out], below_store3 hz4.below (Nat.le_refl _) _ _ _⟩
   | true =>
    have p1 : (48 : Int) ≤ s[k].toNat := by simp [digB] at hd; omega
    have p2 : (s[k].toNat : Int) ≤ 57 := by simp [digB] at hd; omega
    have hall2 : Hid (((s.data.toList.drop 1).take (k + 1 - 1)).all digB = true) := Lib.hid (by
     rw [show k + 1 - 1 = k - 1 + 1 by omega, take_drop_byte s 1 k hlt hk1, List.all_append, hall.out]; simp [hd])
    clear hd
    go_wp2_with fail
    go_roundw
    case rel => exact ⟨k + 1, by go_num, by omega, by omega, hall2, by first | exact hz4 | exact hz4.drewN _⟩
    case measure => simp [intOf]; omega
  ·obtain rfl : k = s.size := by omega
   have Hall : Hid ((s.data.toList.drop 1).all digB = true) := Lib.hid (by have := hall.out; rwa [take_drop_all] at this)
   have Hdig : Hid (∀ j (h : j < s.size), 1 ≤ j → 48 ≤ s[j].toNat ∧ s[j].toNat ≤ 57) := Lib.hid fun j h hj => by
    have hm : s[j] ∈ s.data.toList.drop 1 := by
     have := take_drop_byte s 1 j h hj
     refine List.mem_of_mem_take (i := j - 1 + 1) ?_
     rw [this]; simp
    exact digB_iff.1 (List.all_eq_true.1 Hall.out _ hm)
   obtain ⟨wo, hwo⟩ : ∃ wo : World, wo = wr := ⟨_, rfl⟩
   clear hall
   go_wp2_with fail
   go_loopw [9, 11] (fun i v wr => ∃ (k u : Nat), i = .int .i64 k ∧ v = .int .u64 u ∧ 1 ≤ k ∧ k ≤ s.size ∧ u ≤ 9223372036854775808 ∧ Hid (u = dval ((s.data.toList.drop 1).take (k - 1))) ∧ RZ w wr) (fun i _ _ => s.size - (intOf i).toNat)
   case atStart => exact ⟨1, 0, rfl, rfl, by omega, by omega, by omega, Lib.hid (by simp [dval]), by first | exact hz4 | exact hz4.drewN _⟩
   case round =>
    clear hz4 c0 c1 c2 f0 f1 f2
    obtain ⟨k, u, rfl, rfl, hk1, hk2, hu, hud, hz4⟩ := hrel
    obtain ⟨c0, c1, c2, f0, f1, f2⟩ := kept3 (b := w.heap.size) (Below.refl _ wr) (by have := hz4.size; omega) hz4.blk
    by_cases hlt2 : k < s.size
    ·obtain ⟨p1, p2⟩ := Hdig.out k hlt2 hk1
     have q1 : (48 : Int) ≤ s[k].toNat := by omega
     have q2 : (s[k].toNat : Int) ≤ 57 := by omega
     have hstep : Hid (dval ((s.data.toList.drop 1).take (k - 1 + 1)) = 10 * u + (s[k].toNat - 48)) := Lib.hid (by rw [take_drop_byte s 1 k hlt2 hk1, dval_step, hud.out])
     by_cases hbig : (9223372036854775808 - ((s[k].toNat : Int) - 48)) / 10 < (u : Int)
     ·have Hr := Lib.hid (show intRes s.data.toList = .tuple #[vz, .int .i64 1] by
       have hge := dval_take (s.data.toList.drop 1) (k - 1 + 1)
       rw [hstep.out] at hge
       have hni : inI (ival s.data.toList) = false := by
        rw [HI.out]
        cases hc : inI (-(dval (s.data.toList.drop 1) : Int))
        ·rfl
        ·rw [inI_iff] at hc; omega
       unfold intRes
       rw [HW.out, Hall.out, hni]; rfl)
      go_wp2_with fail
      exact bodyPost_ret (v := .tuple #[vz, .int .i64 1]) (by simp [results, Try.results40, go_sem, c0, c1, c2]) rfl ⟨by rw [Hr.out], below_store3 hz4.below (Nat.le_refl _) _ _ _⟩
     ·have hsm : (u : Int) ≤ (9223372036854775808 - ((s[k].toNat : Int) - 48)) / 10 := by omega
      clear hbig
      go_wp2_with fail
      go_roundw
      case rel => exact ⟨k + 1, 10 * u + (s[k].toNat - 48), by go_num, by first | go_num | (congr 1; omega), by omega, by omega, by omega, Lib.hid (by rw [show k + 1 - 1 = k - 1 + 1 by omega, hstep.out]), by first | exact hz4 | exact hz4.drewN _⟩
      case measure => simp [intOf]; omega
    ·obtain rfl : k = s.size := by omega
     have hv : u = dval (s.data.toList.drop 1) := by rw [hud.out, take_drop_all]
     have Hr := Lib.hid (show intRes s.data.toList = .tuple #[vi (-(u : Int)), .int .i64 0] by
      have hin : inI (ival s.data.toList) = true := by rw [HI.out, inI_iff]; omega
      unfold intRes
      rw [HW.out, Hall.out, hin, HI.out, ← hv]; rfl)
     clear hv
     go_wp2_with fail
     refine (refInt_is _ (-(u : Int)) _ (by first | rfl | omega | (simp [wrap64, IntKind.wrap, IntKind.bits, IntKind.signed]; omega) | (unfold wrap64; simp [IntKind.wrap, IntKind.bits, IntKind.signed]; omega))).mono ?_
     rintro e w2 ⟨rfl, rfl⟩
     have hz5 := hz4.alloc (.cells #[.int .i64 2, .int .i64 (-(u : Int)), .string ⟨#[]⟩] 31)
     obtain ⟨c0, c1, c2, f0, f1, f2⟩ := kept3 (b := w.heap.size) (Below.refl _ _) (by have := hz5.size; omega) hz5.blk
     go_wp2_with fail
     exact bodyPost_ret (v := .tuple #[vi (-(u : Int)), .int .i64 0]) (by simp [results, Try.results40, go_sem, c0, c1, c2]) rfl ⟨by rw [Hr.out], below_store3 hz5.below (Nat.le_refl _) _ _ _⟩
end Go.Proofs.Ytfambadamebjjaa
