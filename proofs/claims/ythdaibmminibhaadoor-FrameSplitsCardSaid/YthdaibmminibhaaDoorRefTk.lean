/- Contracts of the document's Take. -/
import Derived.Test.YthdaibmminibhaaDoorDec5
import Derived.Test.YthdaibmminibhaaDoorRefRn
import Derived.Test.YthdaibmminibhaaDoorRefSum5
namespace Go.Proofs.YthdaibmminibhaaDoor
open Go.RowKit

def TkNo (w : World) (e : Ending) (w' : World) : Prop := e = .returned (.tuple #[.slice none 0 0, .int .i64 0, .int .i64 2]) ∧ w = w'
set_option maxRecDepth 100000 in
set_option maxHeartbeats 3200000 in
theorem refTake_no (a : Option Addr) (l : List UInt8) (cap : Nat) (w : World) (hb : BAt w.heap.size w a l) (hcl : l.length ≤ cap) (hcm : cap ≤ 9223372036854775807) (hn : msr l = none) :
    Calls Tryd.prog 73 #[.slice a l.length cap] w (TkNo w) := by
  cases l with
  | nil =>
    clear hb hn
    go_enter Tryd.func73, Tryd.ntmps73
    go_wp2_with fail
    go_ret3
    exact ⟨rfl, rfl⟩
  | cons c s =>
    obtain ⟨b, off, rfl, hlt, hc0⟩ := hb.at (i := 0) (by simp)
    rw [Nat.add_zero] at hc0
    simp only [List.getD_cons_zero] at hc0
    have hpos : ((s.length : Int) + 1 == 0) = false := beq_eq_false_iff_ne.2 (by omega)
    by_cases h83 : c = 83
    · subst h83
      have c83 : w.cell? ⟨b, off, none⟩ = some (.int .u8 83) := hc0
      rw [msr_head] at hn
      have hsub := hb.sub (q := 1) (cap := cap) (by simp) hcl
      have HR := refReadNumber_any _ (cap - 1) s w hsub
      clear hsub hb hc0
      simp only [List.length_cons] at hcl ⊢
      obtain ⟨m, hm⟩ : ∃ m, m = s.length := ⟨_, rfl⟩
      have Hm := Lib.hid hm
      rw [← hm] at HR hcl hpos hn ⊢
      have HR' : Hid (∀ A c', A = (if cap = 1 then some ⟨b, off, none⟩ else some ⟨b, off + 1, none⟩) → c' = cap - 1 → Calls Tryd.prog 23 #[.slice A m c'] w fun e w' => e = .returned (rnV (readN s)) ∧ w = w') := Lib.hid (by rintro A c' rfl rfl; exact HR)
      have i0 : (1 : Int) ≤ (m : Int) + 1 := by omega
      have i1 : ((m : Int) + 1) ≤ cap := by omega
      clear HR hm
      cases hr : readN s with
      | none =>
        rw [hr] at HR'
        clear hr hn
        by_cases hc1 : cap = 1
        · subst hc1
          obtain rfl : m = 0 := by omega
          have HA := Lib.hid (HR'.out _ 0 (if_pos rfl).symm rfl)
          clear HR'
          go_enter Tryd.func73, Tryd.ntmps73
          go_wp2_with fail
          refine HA.out.mono ?_
          rintro e w1 ⟨rfl, rfl⟩
          unfold rnV
          go_wp2_with fail
          go_ret3
          exact ⟨rfl, rfl⟩
        · have HA := Lib.hid (HR'.out _ _ (if_neg hc1).symm rfl)
          clear HR'
          go_enter Tryd.func73, Tryd.ntmps73
          go_wp2_with fail
          refine HA.out.mono ?_
          rintro e w1 ⟨rfl, rfl⟩
          unfold rnV
          go_wp2_with fail
          go_ret3
          exact ⟨rfl, rfl⟩
      | some x =>
        obtain ⟨n, k⟩ := x
        obtain ⟨_, hk1, hk2, hn64, _⟩ := readN_some hr
        have hc1 : ¬ cap = 1 := by rw [← Hm.out] at hk2; omega
        rw [hr] at HR' hn
        have HA := Lib.hid (HR'.out _ _ (if_neg hc1).symm rfl)
        rw [← Hm.out] at hk2
        simp only at hn
        clear HR' hr
        have hk0 : ((k : Int) == 0) = false := beq_eq_false_iff_ne.2 (by omega)
        by_cases h1 : n ≤ 200000
        · have h1' : (n : Int) ≤ 200000 := by omega
          have e2 : IntKind.i64.wrap (n : Int) = n := IntWalk.i64_in _ (by omega)
          have h2' : ((m : Int) + 1) < 1 + k + n + 4 := by
            by_cases h2 : 1 + k + n + 4 ≤ m + 1
            · rw [if_pos ⟨h1, h2⟩] at hn; cases hn
            · omega
          clear hn
          go_enter Tryd.func73, Tryd.ntmps73
          go_wp2_with fail
          refine HA.out.mono ?_
          rintro e w1 ⟨rfl, rfl⟩
          unfold rnV
          go_wp2_with fail
          go_ret3
          exact ⟨rfl, rfl⟩
        · have h1' : (200000 : Int) < n := by omega
          clear hn
          go_enter Tryd.func73, Tryd.ntmps73
          go_wp2_with fail
          refine HA.out.mono ?_
          rintro e w1 ⟨rfl, rfl⟩
          unfold rnV
          go_wp2_with fail
          go_ret3
          exact ⟨rfl, rfl⟩
    · have hne : ((c.toNat : Int) != 83) = true := by
        rw [bne_iff_ne]
        intro e
        apply h83
        rw [← UInt8.toNat_inj]
        have : c.toNat = 83 := by omega
        exact this
      unfold bV at hc0
      clear hb h83 hn
      simp only [List.length_cons]
      go_enter Tryd.func73, Tryd.ntmps73
      go_wp2_with fail
      go_ret3
      exact ⟨rfl, rfl⟩
/-- What Take answers of bytes that begin with a frame as long as one. -/
def TkSome (w : World) (b off cap f t : Nat) (S T : List UInt8) (e : Ending) (w' : World) : Prop :=
  (T = S → e = .returned (.tuple #[.slice (some ⟨b, off + f, none⟩) (t - f) (cap - f), .int .i64 ((t : Int) + 4), .int .i64 0])) ∧ (T ≠ S → e = .returned (.tuple #[.slice none 0 0, .int .i64 ((t : Int) + 4), .int .i64 4])) ∧ w.grownBy w' none
theorem get_take_drop (l : List UInt8) (t i : Nat) (h : i < 4) : ((l.drop t).take 4).getD i 0 = l.getD (t + i) 0 := by
  simp [List.getD, h, List.getElem?_drop]
set_option maxRecDepth 100000 in
set_option maxHeartbeats 6400000 in
theorem refTake_some (b off : Nat) (s : List UInt8) (cap n k : Nat) (w : World) (hb : BAt w.heap.size w (some ⟨b, off, none⟩) (83 :: s)) (hcl : s.length + 1 ≤ cap) (hcm : cap ≤ 9223372036854775807) (hr : readN s = some (n, k)) (h1 : n ≤ 200000) (h2 : 1 + k + n + 4 ≤ s.length + 1) :
    Calls Tryd.prog 73 #[.slice (some ⟨b, off, none⟩) (s.length + 1 : Nat) cap] w (TkSome w b off cap (1 + k) (1 + k + n) (Crc.le4 (Crc.crc ((83 :: s).take (1 + k + n)))) (((83 :: s).drop (1 + k + n)).take 4)) := by
  obtain ⟨b', off', e', hlt, hc0⟩ := hb.at (i := 0) (by simp)
  cases e'
  rw [Nat.add_zero] at hc0
  simp only [List.getD_cons_zero] at hc0
  have c83 : w.cell? ⟨b, off, none⟩ = some (.int .u8 83) := hc0
  have hpos : ((s.length : Int) + 1 == 0) = false := beq_eq_false_iff_ne.2 (by omega)
  obtain ⟨_, hk1, hk2, hn64, _⟩ := readN_some hr
  have hsub := hb.sub (q := 1) (cap := cap) (by simp) (by simpa using hcl)
  rw [if_neg (show ¬ cap = 1 by omega)] at hsub
  have HR := Lib.hid (refReadNumber_any _ (cap - 1) s w hsub)
  rw [hr] at HR
  have hA := hb.pre2 (k := 1 + k + n) (by simp; omega)
  have hlA : ((83 :: s).take (1 + k + n)).length = 1 + k + n := by rw [List.length_take, List.length_cons]; omega
  have HS := Lib.hid (refSum_any _ cap _ w hA)
  rw [hlA] at HS
  have HF := Lib.hid (fun (W : World) => four_any (Crc.crc ((83 :: s).take (1 + k + n))) W)
  have HB : Hid (∀ i, i < 4 → w.cell? ⟨b, off + (1 + k + n + i), none⟩ = some (bV ((((83 :: s).drop (1 + k + n)).take 4).getD i 0))) := Lib.hid fun i hi => by
    rw [get_take_drop _ _ _ hi]
    obtain ⟨b', off', e', _, hc⟩ := hb.at (i := 1 + k + n + i) (by simp; omega)
    cases e'
    exact hc
  have hSl : (Crc.le4 (Crc.crc ((83 :: s).take (1 + k + n)))).length = 4 := rfl
  have hTl : (((83 :: s).drop (1 + k + n)).take 4).length = 4 := by rw [List.length_take, List.length_drop, List.length_cons]; omega
  generalize Crc.le4 (Crc.crc ((83 :: s).take (1 + k + n))) = S at *
  generalize ((83 :: s).drop (1 + k + n)).take 4 = T at *
  generalize (Crc.crc ((83 :: s).take (1 + k + n))).toNat = cs at *
  have HSl := Lib.hid hSl
  have HTl := Lib.hid hTl
  generalize s.length = m at *
  clear hb hr hsub hA hlA hc0 hSl hTl
  rw [show ((m + 1 : Nat)) = m + 1 from rfl]
  have hk0 : ((k : Int) == 0) = false := beq_eq_false_iff_ne.2 (by omega)
  have h1' : (n : Int) ≤ 200000 := by omega
  have e2 : IntKind.i64.wrap (n : Int) = n := IntWalk.i64_in _ (by omega)
  have h2' : (1 : Int) + k + n + 4 ≤ (m : Int) + 1 := by omega
  have i0 : (1 : Int) ≤ (m : Int) + 1 := by omega
  have i1 : ((m : Int) + 1) ≤ cap := by omega
  have i2 : ¬ cap = 1 := by omega
  have i3 : (1 : Int) + k + n ≤ cap := by omega
  have i4 : (1 : Int) + k ≤ 1 + k + n := by omega
  have i5 : ¬ (cap : Int) = 1 + k := by omega
  have i6 : ¬ cap = 1 + k := by omega
  go_enter Tryd.func73, Tryd.ntmps73
  go_wp2_with fail
  refine HR.out.mono ?_
  rintro e w1 ⟨rfl, rfl⟩
  unfold rnV
  go_wp2_with fail
  refine HS.out.mono ?_
  rintro e w1 ⟨rfl, rfl⟩
  go_wp2_with fail
  refine (HF.out _).mono ?_
  rintro e w2 ⟨v, rfl, ho, hg⟩
  obtain ⟨p, c, rfl, hp, hc4, hcm4, _⟩ := ho.read2 (by rw [HSl.out]; omega)
  rw [HSl.out]
  obtain ⟨pb, po, rfl, _, _⟩ := hp.at (i := 0) (by rw [HSl.out]; omega)
  have P2 := Lib.hid hp
  have K2 := Lib.hid (grown_below hg none)
  clear ho hp hg
  go_wp2_with fail
  go_loopw [54] (fun i wr => ∃ (j : Nat), i = .int .i64 j ∧ j ≤ 4 ∧ Hid (∀ q, q < j → T.getD q 0 = S.getD q 0) ∧ Hid (w2.grownBy wr none)) (fun i _ => 4 - (intOf i).toNat)
  case atStart => exact ⟨0, rfl, by omega, Lib.hid (fun q hq => by omega), Lib.hid (grown_refl _ _)⟩
  case round =>
    obtain ⟨j, rfl, hj, E, K⟩ := hrel
    by_cases hlt4 : j < 4
    · obtain ⟨_, _, e', _, cS⟩ := (P2.out.keep K.out (by simp)).at (i := j) (by rw [HSl.out]; exact hlt4)
      cases e'
      have cT := (K2.out.trans K.out).cell (HB.out j hlt4) (by simp)
      obtain ⟨y, hy⟩ : ∃ y, y = T.getD j 0 := ⟨_, rfl⟩
      obtain ⟨x, hx⟩ : ∃ x, x = S.getD j 0 := ⟨_, rfl⟩
      rw [← hy] at cT
      rw [← hx] at cS
      unfold bV at cS cT
      have Hx := Lib.hid hx.symm
      have Hy := Lib.hid hy.symm
      clear hx hy
      have i7 : (1 : Int) + k + n + j < (m : Int) + 1 := by omega
      have i8 : (0 : Int) ≤ 1 + k + n + j := by omega
      by_cases hxy : x = y
      · have EN : Hid (∀ q, q < j + 1 → T.getD q 0 = S.getD q 0) := Lib.hid fun q hq => by
          by_cases e : q = j
          · rw [e, Hx.out, Hy.out, hxy]
          · exact E.out q (by omega)
        have tt : ((x.toNat : Int) != (y.toNat : Int)) = false := by rw [hxy]; simp
        clear hxy
        go_wp2_with fail
        go_quiet (fail)
        go_wp2_with fail
        go_roundw
        case rel => exact ⟨j + 1, by go_num, by omega, EN, Lib.hid (grown_drewN K.out _)⟩
        case measure => simp [intOf]; omega
      · have EN : Hid (T ≠ S) := Lib.hid fun e => hxy (by rw [← Hx.out, ← Hy.out, e])
        have tt : ((x.toNat : Int) != (y.toNat : Int)) = true := by
          rw [bne_iff_ne]; intro e; exact hxy (UInt8.toNat_inj.1 (by omega))
        clear hxy
        go_wp2_with fail
        go_quiet (fail)
        go_wp2_with fail
        go_ret3
        exact ⟨fun h => absurd h EN.out, fun _ => by push_cast; rfl, grown_drewN (K2.out.trans K.out) _⟩
    · obtain rfl : j = 4 := by omega
      have EN : Hid (T = S) := Lib.hid (by
        apply List.ext_getElem
        · rw [HSl.out, HTl.out]
        · intro q h1 h2
          have := E.out q (by rw [HTl.out] at h1; exact h1)
          simpa [List.getD, h1, h2] using this)
      go_wp2_with fail
      go_ret3
      exact ⟨fun _ => by first | rfl | (push_cast; rfl) | (simp; omega), fun h => absurd EN.out h, K2.out.trans K.out⟩
end Go.Proofs.YthdaibmminibhaaDoor
