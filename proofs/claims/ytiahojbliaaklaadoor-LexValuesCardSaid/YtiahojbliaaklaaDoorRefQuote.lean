/- The contract of the reference's Text, at texts. -/
import Derived.Test.YtiahojbliaaklaaDoorRefText
namespace Go.Proofs.YtiahojbliaaklaaDoor
open Go.RowKit

/-- A slice of bytes of the call's own, over a value's block. -/
structure RI (w : World) (n : Int) (s : ByteArray) (l : List UInt8) (v : Value) (m : Nat) (wr : World) : Prop where
  own : wr.ownsRow w.heap.size 5 1 v m (Lib.byteCells l)
  len : m = l.length
  below : Below w.heap.size w wr
  size : w.heap.size + 1 ≤ wr.heap.size
  blk : wr.heap[w.heap.size]? = some (.cells #[.int .i64 3, .int .i64 n, .string s] 35 (0, 0))

theorem RI.step {w : World} {n : Int} {s : ByteArray} {l x : List UInt8} {v v' : Value} {m k : Nat} {wr w2 : World} {o : Obj} (h : RI w n s l v m wr) (hk : k = x.length)
    (hown : w2.ownsRow w.heap.size 5 1 v' (m + k) (Lib.byteCells l ++ Lib.byteCells x)) (hg : (wr.alloc o).grownBy w2 v.ownBlock) : RI w n s (l ++ x) v' (m + k) w2 := by
  have hne := Lib.ownBlock_ne h.own h.blk (by decide)
  have hs := h.size
  refine ⟨by rw [Lib.byteCells_append]; exact hown, by rw [h.len, hk, List.length_append], (h.below.alloc (by omega) o).grown hg (by simp; omega) (fun k hk => (h.own.lt k hk).1), by have := hg.size; simp at this; omega, ?_⟩
  rw [hg.block w.heap.size (by simp; omega) (fun e => hne e.symm), Lib.alloc_old _ _ _ (by omega)]
  exact h.blk

theorem RI.begin (w : World) (n : Int) (s : ByteArray) : RI w n s [39] (.slice (some ⟨w.heap.size + 1, 0, none⟩) 1 1) 1 ((w.alloc (.cells #[.int .i64 3, .int .i64 n, .string s] 35)).alloc (.cells #[.int .u8 39] 5)) := by
  have h := World.ownsRow_lit (base := w.heap.size) (e := 5) (size := 1) (w.alloc (.cells #[.int .i64 3, .int .i64 n, .string s] 35)) #[.int .u8 39] 1 (by simp) (by decide) rfl
  rw [World.size_alloc] at h
  refine ⟨h, rfl, ((Below.refl _ _).alloc (Nat.le_refl _) _).alloc (by simp) _, by simp, ?_⟩
  rw [Lib.alloc_old _ _ _ (by simp)]
  exact heap_new _ _

theorem refHex_hi (c : Nat) (w : World) (hc : c < 256) :
    Calls Tryd.prog 19 #[.int .u8 ((c : Int) / 16)] w fun e w' => e = .returned (.int .u8 (hexd (c / 16)).toNat) ∧ w = w' := refHex_any (c / 16) w (by omega)
theorem refHex_lo (c : Nat) (w : World) :
    Calls Tryd.prog 19 #[.int .u8 ((c : Int) % 16)] w fun e w' => e = .returned (.int .u8 (hexd (c % 16)).toNat) ∧ w = w' := refHex_any (c % 16) w (by omega)

set_option maxRecDepth 100000 in
set_option maxHeartbeats 800000 in
theorem refText_text (n : Int) (s : ByteArray) (w : World) (hs : s.size ≤ 60) :
    Calls Tryd.prog 13 #[.agg #[.int .i64 3, .int .i64 n, .string s]] w fun e w' => e = .returned (.string ⟨(39 :: (qs s.data.toList ++ [39])).toArray⟩) ∧ Below w.heap.size w w' := by
  obtain ⟨i0, hi, hz0, hz1, hz2⟩ := info_parts byte_info
  go_enter Tryd.func13, Tryd.ntmps13
  go_wp2_with fail
  go_loopw [3, 4] (fun v i wr => ∃ (k m : Nat), k ≤ s.size ∧ i = .int .i64 k ∧ RI w n s (39 :: qs (s.data.toList.take k)) v m wr) (fun _ i _ => s.size - (intOf i).toNat)
  case atStart => exact ⟨0, 1, Nat.zero_le _, rfl, RI.begin w n s⟩
  case round =>
    obtain ⟨k, m, hk, rfl, hri⟩ := hrel
    obtain ⟨ao, cap, rfl⟩ := slice_of_own hri.own
    have hlen := qs_take_len s k (by omega)
    have hm200 : m ≤ 200 := by rw [hri.len]; exact hlen
    have c2 : wr.cell? ⟨w.heap.size, 2, none⟩ = some (.string s) := by rw [Lib.cell_of_heap hri.blk]; rfl
    have hbase := hri.size
    have Hri := Lib.hid hri
    clear hri hlen
    by_cases hlt : k < s.size
    · have hb256 := byte_lt s[k]
      rcases q1_cases s[k] with ⟨h39, hq⟩ | ⟨h39, h92, hp, hq⟩ | ⟨h39, hp, hq⟩
      · have e39 : ((s[k].toNat : Int) == 39) = true := by rw [h39]; rfl
        have HQ := Lib.hid hq
        clear h39 hq
        go_wp2_with (at_builtin; refine wpList_append_own _ rfl _ _ 30 rfl w.heap.size 5 i0 (.int .u8 0) 1 1 Tryd.underlying30 hi hz0 hz1 hz2 rfl (by decide) _ _ _ rfl (Hri.out.own.alloc _) ⟨wr.heap.size, 0, none⟩ 2 2 [.int .u8 39, .int .u8 39] rfl rfl ?c1 ?c2 ?c3 ?c4 ?c5 ?_)
        case c1 =>
          intro j u hj
          match j, hj with
          | 0, hj => simp at hj; subst hj; simp [Addr.add]
          | 1, hj => simp at hj; subst hj; simp [Addr.add]
        case c2 => intro u hu; simp at hu; rcases hu with rfl | rfl <;> rfl
        case c3 => unfold maxLen; omega
        case c4 => omega
        case c5 => simp; omega
        intro v' w2 hown' hgrow _
        have hri2 := Hri.out.step (x := [39, 39]) rfl hown' hgrow
        go_wp2_with fail
        go_roundw
        case rel => exact ⟨k + 1, _, by omega, by go_num, by rw [qs_snoc s k hlt, HQ.out]; exact hri2⟩
        case measure => simp [intOf]; omega
      · have e39 : ((s[k].toNat : Int) == 39) = false := ne_byte 39 (fun h => h39 (UInt8.toNat_inj.1 h))
        have e92 : ((s[k].toNat : Int) == 92) = false := ne_byte 92 (fun h => h92 (UInt8.toNat_inj.1 h))
        have hr : (32 : Int) ≤ s[k].toNat ∧ (s[k].toNat : Int) ≤ 126 := by simp [plainB] at hp; omega
        obtain ⟨h32, h126⟩ := hr
        have HQ := Lib.hid hq
        clear h39 h92 hp hq
        go_wp2_with (at_builtin; refine wpList_append_own _ rfl _ _ 30 rfl w.heap.size 5 i0 (.int .u8 0) 1 1 Tryd.underlying30 hi hz0 hz1 hz2 rfl (by decide) _ _ _ rfl (Hri.out.own.alloc _) ⟨wr.heap.size, 0, none⟩ 1 1 [.int .u8 s[k].toNat] rfl rfl ?c1 ?c2 ?c3 ?c4 ?c5 ?_)
        case c1 =>
          intro j u hj
          match j, hj with
          | 0, hj => simp at hj; subst hj; simp [Addr.add]
        case c2 => intro u hu; simp at hu; subst hu; rfl
        case c3 => unfold maxLen; omega
        case c4 => omega
        case c5 => simp; omega
        intro v' w2 hown' hgrow _
        have hri2 := Hri.out.step (x := [s[k]]) rfl hown' hgrow
        go_wp2_with fail
        go_roundw
        case rel => exact ⟨k + 1, _, by omega, by go_num, by rw [qs_snoc s k hlt, HQ.out]; exact hri2⟩
        case measure => simp [intOf]; omega
      · have e39 : ((s[k].toNat : Int) == 39) = false := ne_byte 39 (fun h => h39 (UInt8.toNat_inj.1 h))
        have HQ := Lib.hid hq
        clear h39 hq
        by_cases h32 : (s[k].toNat : Int) < 32
        · clear hp
          go_wp2_with fail
          refine (refHex_hi _ _ hb256).mono ?_
          rintro e w1 ⟨rfl, rfl⟩
          go_wp2_with fail
          refine (refHex_lo _ _).mono ?_
          rintro e w1 ⟨rfl, rfl⟩
          go_wp2_with (at_builtin; refine wpList_append_own _ rfl _ _ 30 rfl w.heap.size 5 i0 (.int .u8 0) 1 1 Tryd.underlying30 hi hz0 hz1 hz2 rfl (by decide) _ _ _ rfl (Hri.out.own.alloc _) ⟨wr.heap.size, 0, none⟩ 3 3 [.int .u8 92, .int .u8 (hexd (s[k].toNat / 16)).toNat, .int .u8 (hexd (s[k].toNat % 16)).toNat] rfl rfl ?c1 ?c2 ?c3 ?c4 ?c5 ?_)
          case c1 =>
            intro j u hj
            match j, hj with
            | 0, hj => simp at hj; subst hj; simp [Addr.add]
            | 1, hj => simp at hj; subst hj; simp [Addr.add]
            | 2, hj => simp at hj; subst hj; simp [Addr.add]
          case c2 => intro u hu; simp at hu; rcases hu with rfl | rfl | rfl <;> rfl
          case c3 => unfold maxLen; omega
          case c4 => omega
          case c5 => simp; omega
          intro v' w2 hown' hgrow _
          have hri2 := Hri.out.step (x := [92, hexd (s[k].toNat / 16), hexd (s[k].toNat % 16)]) rfl hown' hgrow
          go_wp2_with fail
          go_roundw
          case rel => exact ⟨k + 1, _, by omega, by go_num, by rw [qs_snoc s k hlt, HQ.out]; exact hri2⟩
          case measure => simp [intOf]; omega
        · by_cases h126 : (126 : Int) < s[k].toNat
          · clear hp
            go_wp2_with fail
            refine (refHex_hi _ _ hb256).mono ?_
            rintro e w1 ⟨rfl, rfl⟩
            go_wp2_with fail
            refine (refHex_lo _ _).mono ?_
            rintro e w1 ⟨rfl, rfl⟩
            go_wp2_with (at_builtin; refine wpList_append_own _ rfl _ _ 30 rfl w.heap.size 5 i0 (.int .u8 0) 1 1 Tryd.underlying30 hi hz0 hz1 hz2 rfl (by decide) _ _ _ rfl (Hri.out.own.alloc _) ⟨wr.heap.size, 0, none⟩ 3 3 [.int .u8 92, .int .u8 (hexd (s[k].toNat / 16)).toNat, .int .u8 (hexd (s[k].toNat % 16)).toNat] rfl rfl ?c1 ?c2 ?c3 ?c4 ?c5 ?_)
            case c1 =>
              intro j u hj
              match j, hj with
              | 0, hj => simp at hj; subst hj; simp [Addr.add]
              | 1, hj => simp at hj; subst hj; simp [Addr.add]
              | 2, hj => simp at hj; subst hj; simp [Addr.add]
            case c2 => intro u hu; simp at hu; rcases hu with rfl | rfl | rfl <;> rfl
            case c3 => unfold maxLen; omega
            case c4 => omega
            case c5 => simp; omega
            intro v' w2 hown' hgrow _
            have hri2 := Hri.out.step (x := [92, hexd (s[k].toNat / 16), hexd (s[k].toNat % 16)]) rfl hown' hgrow
            go_wp2_with fail
            go_roundw
            case rel => exact ⟨k + 1, _, by omega, by go_num, by rw [qs_snoc s k hlt, HQ.out]; exact hri2⟩
            case measure => simp [intOf]; omega
          · have e92 : ((s[k].toNat : Int) == 92) = true := by simp [plainB] at hp; rw [beq_iff_eq]; have := hp (by omega) (by omega); omega
            clear hp
            go_wp2_with fail
            refine (refHex_hi _ _ hb256).mono ?_
            rintro e w1 ⟨rfl, rfl⟩
            go_wp2_with fail
            refine (refHex_lo _ _).mono ?_
            rintro e w1 ⟨rfl, rfl⟩
            go_wp2_with (at_builtin; refine wpList_append_own _ rfl _ _ 30 rfl w.heap.size 5 i0 (.int .u8 0) 1 1 Tryd.underlying30 hi hz0 hz1 hz2 rfl (by decide) _ _ _ rfl (Hri.out.own.alloc _) ⟨wr.heap.size, 0, none⟩ 3 3 [.int .u8 92, .int .u8 (hexd (s[k].toNat / 16)).toNat, .int .u8 (hexd (s[k].toNat % 16)).toNat] rfl rfl ?c1 ?c2 ?c3 ?c4 ?c5 ?_)
            case c1 =>
              intro j u hj
              match j, hj with
              | 0, hj => simp at hj; subst hj; simp [Addr.add]
              | 1, hj => simp at hj; subst hj; simp [Addr.add]
              | 2, hj => simp at hj; subst hj; simp [Addr.add]
            case c2 => intro u hu; simp at hu; rcases hu with rfl | rfl | rfl <;> rfl
            case c3 => unfold maxLen; omega
            case c4 => omega
            case c5 => simp; omega
            intro v' w2 hown' hgrow _
            have hri2 := Hri.out.step (x := [92, hexd (s[k].toNat / 16), hexd (s[k].toNat % 16)]) rfl hown' hgrow
            go_wp2_with fail
            go_roundw
            case rel => exact ⟨k + 1, _, by omega, by go_num, by rw [qs_snoc s k hlt, HQ.out]; exact hri2⟩
            case measure => simp [intOf]; omega
    · obtain rfl : k = s.size := by omega
      go_wp2_with (at_builtin; refine wpList_append_own _ rfl _ _ 30 rfl w.heap.size 5 i0 (.int .u8 0) 1 1 Tryd.underlying30 hi hz0 hz1 hz2 rfl (by decide) _ _ _ rfl (Hri.out.own.alloc _) ⟨wr.heap.size, 0, none⟩ 1 1 [.int .u8 39] rfl rfl ?c1 ?c2 ?c3 ?c4 ?c5 ?_)
      case c1 =>
        intro j u hj
        match j, hj with
        | 0, hj => simp at hj; subst hj; simp [Addr.add]
      case c2 => intro u hu; simp at hu; subst hu; rfl
      case c3 => unfold maxLen; omega
      case c4 => omega
      case c5 => simp; omega
      intro v' w2 hown' hgrow _
      have hri2 := Hri.out.step (x := [39]) rfl hown' hgrow
      have Hcv := Lib.hid (conv_own hri2.own)
      have hb := hri2.below
      have hf : (39 :: qs (s.data.toList.take s.size)) ++ [39] = 39 :: (qs s.data.toList ++ [39]) := by rw [List.take_of_length_le (by rw [← size_list rfl]; exact Nat.le_refl _)]; rfl
      rw [hf] at Hcv
      clear hri2 hgrow hown' hf
      go_wp2_with fail
      rw [Hcv.out]
      simp only [Result.andThen]
      rw [Oper.upon_value]
      go_wp2_with fail
      go_ret
      exact ⟨rfl, hb⟩
end Go.Proofs.YtiahojbliaaklaaDoor
