/- Contracts of the document's Decode and Encode. -/
import Derived.Test.YthdaibmminibhaaDoorRefTk
namespace Go.Proofs.YthdaibmminibhaaDoor
open Go.RowKit

theorem msr_inv {l : List UInt8} {f t : Nat} (h : msr l = some (f, t)) : ∃ s n k, l = 83 :: s ∧ readN s = some (n, k) ∧ n ≤ 200000 ∧ 1 + k + n + 4 ≤ s.length + 1 ∧ f = 1 + k ∧ t = 1 + k + n := by
  cases l with
  | nil => cases h
  | cons c s =>
    by_cases h83 : c = 83
    · subst h83
      rw [msr_head] at h
      cases hr : readN s with
      | none => rw [hr] at h; cases h
      | some x =>
        obtain ⟨n, k⟩ := x
        rw [hr] at h
        simp only at h
        split at h
        · next h2 => cases h; exact ⟨s, n, k, rfl, hr, h2.1, h2.2, rfl, rfl⟩
        · cases h
    · rw [msr_other h83] at h; cases h
theorem refTake_yes (b off : Nat) (l : List UInt8) (cap f t : Nat) (w : World) (hb : BAt w.heap.size w (some ⟨b, off, none⟩) l) (hcl : l.length ≤ cap) (hcm : cap ≤ 9223372036854775807) (hn : msr l = some (f, t)) :
    Calls Tryd.prog 73 #[.slice (some ⟨b, off, none⟩) l.length cap] w (TkSome w b off cap f t (Crc.le4 (Crc.crc (l.take t))) ((l.drop t).take 4)) := by
  obtain ⟨s, n, k, rfl, hr, h1, h2, rfl, rfl⟩ := msr_inv hn
  exact refTake_some b off s cap n k w hb (by simpa using hcl) hcm hr h1 h2
/-- What the document's Decode answers. -/
def RDec (w : World) (x : Nat × List UInt8) (e : Ending) (w' : World) : Prop := ∃ p c, e = .returned (.tuple #[.slice p x.2.length c, .int .i64 x.1]) ∧ BAt w'.heap.size w' p x.2 ∧ w.grownBy w' none
set_option maxRecDepth 100000 in
set_option maxHeartbeats 1600000 in
theorem refDecode_none (a : Option Addr) (l : List UInt8) (cap : Nat) (w : World) (hb : BAt w.heap.size w a l) (hcl : l.length ≤ cap) (hcm : cap ≤ 9223372036854775807) (hn : msr l = none) :
    Calls Tryd.prog 37 #[.slice a l.length cap] w (RDec w (2, [])) := by
  have HT := Lib.hid (refTake_no a l cap w hb hcl hcm hn)
  generalize l.length = m at *
  clear hb hn
  by_cases hm : m = 0
  · subst hm
    go_enter Tryd.func37, Tryd.ntmps37
    go_wp2_with fail
    refine HT.out.mono ?_
    rintro e w1 ⟨rfl, rfl⟩
    go_wp2_with fail
    go_ret2
    exact ⟨_, _, rfl, ⟨by simp, .inl rfl⟩, grown_refl _ _⟩
  · have tt : ((0 : Int) != (m : Int)) = true := by rw [bne_iff_ne]; omega
    go_enter Tryd.func37, Tryd.ntmps37
    go_wp2_with fail
    refine HT.out.mono ?_
    rintro e w1 ⟨rfl, rfl⟩
    go_wp2_with fail
    go_ret2
    exact ⟨_, _, rfl, ⟨by simp, .inl rfl⟩, grown_refl _ _⟩
set_option maxRecDepth 100000 in
set_option maxHeartbeats 1600000 in
theorem refDecode_some (b off : Nat) (l : List UInt8) (cap f t : Nat) (w : World) (hb : BAt w.heap.size w (some ⟨b, off, none⟩) l) (hcl : l.length ≤ cap) (hcm : cap ≤ 9223372036854775807) (hn : msr l = some (f, t)) :
    Calls Tryd.prog 37 #[.slice (some ⟨b, off, none⟩) l.length cap] w (RDec w (decL l)) := by
  have HT := Lib.hid (refTake_yes b off l cap f t w hb hcl hcm hn)
  obtain ⟨h1, h2, h3⟩ := msr_some hn
  by_cases hl : l.length = t + 4
  · have hT : (l.drop t).take 4 = l.drop t := List.take_of_length_le (by rw [List.length_drop]; omega)
    rw [hT] at HT
    have t0 : ((t : Int) + 4 != (l.length : Int)) = false := by rw [bne_eq_false_iff_eq]; omega
    have t1 : ((l.length : Int) == 0) = false := beq_eq_false_iff_ne.2 (by omega)
    by_cases hs : l.drop t = Crc.le4 (Crc.crc (l.take t))
    · rw [decL_yes hn hl hs]
      have hI := (hb.pre2 (k := t) (by omega)).sub (q := f) (cap := cap) (by rw [List.length_take]; omega) (by rw [List.length_take]; omega)
      rw [if_neg (show ¬ cap = f by omega)] at hI
      have HI := Lib.hid hI
      have hlI : ((l.take t).drop f).length = t - f := by rw [List.length_drop, List.length_take]; omega
      have HlI := Lib.hid hlI
      rw [hs] at HT
      have HT2 := Lib.hid (HT.out.mono (fun e w' h => And.intro (h.1 rfl) h.2.2))
      generalize l.length = m at *
      generalize (l.take t).drop f = x at *
      clear hb hn hs HT hT hI hlI hl h3 hcl
      go_enter Tryd.func37, Tryd.ntmps37
      go_wp2_with fail
      refine HT2.out.mono ?_
      rintro e w1 ⟨rfl, hg⟩
      have HG := Lib.hid hg
      clear hg
      go_wp2_with fail
      go_ret2
      exact ⟨_, _, by rw [HlI.out]; rfl, (HI.out.keep HG.out (by simp)).mono HG.out.size, HG.out⟩
    · rw [decL_sum hn hl hs]
      have HT2 := Lib.hid (HT.out.mono (fun e w' h => And.intro (h.2.1 hs) h.2.2))
      generalize l.length = m at *
      clear hb hn hs HT hT hl h3 hcl
      go_enter Tryd.func37, Tryd.ntmps37
      go_wp2_with fail
      refine HT2.out.mono ?_
      rintro e w1 ⟨rfl, hg⟩
      have HG := Lib.hid hg
      clear hg
      go_wp2_with fail
      go_ret2
      exact ⟨_, _, rfl, ⟨by simp, .inl rfl⟩, HG.out⟩
  · rw [decL_long hn hl]
    have t0 : ((t : Int) + 4 != (l.length : Int)) = true := by rw [bne_iff_ne]; omega
    have HT2 : Hid (Calls Tryd.prog 73 #[.slice (some ⟨b, off, none⟩) l.length cap] w fun e w' => ∃ v c, e = .returned (.tuple #[v, .int .i64 ((t : Int) + 4), .int .i64 c]) ∧ w.grownBy w' none) := Lib.hid (HT.out.mono (fun e w' h => by
      by_cases hs : (l.drop t).take 4 = Crc.le4 (Crc.crc (l.take t))
      · exact ⟨_, _, h.1 hs, h.2.2⟩
      · exact ⟨_, _, h.2.1 hs, h.2.2⟩))
    generalize l.length = m at *
    clear hb hn HT hl h3 hcl
    go_enter Tryd.func37, Tryd.ntmps37
    go_wp2_with fail
    refine HT2.out.mono ?_
    rintro e w1 ⟨v, c, rfl, hg⟩
    have HG := Lib.hid hg
    clear hg
    go_wp2_with fail
    go_ret2
    exact ⟨_, _, rfl, ⟨by simp, .inl rfl⟩, HG.out⟩
theorem refDecode_any (a : Option Addr) (l : List UInt8) (cap : Nat) (w : World) (hb : BAt w.heap.size w a l) (hcl : l.length ≤ cap) (hcm : cap ≤ 9223372036854775807) :
    Calls Tryd.prog 37 #[.slice a l.length cap] w (RDec w (decL l)) := by
  cases hn : msr l with
  | none => rw [decL_none hn]; exact refDecode_none a l cap w hb hcl hcm hn
  | some x =>
    obtain ⟨f, t⟩ := x
    obtain ⟨h1, h2, h3⟩ := msr_some hn
    obtain ⟨b, off, rfl, _, _⟩ := hb.at (i := 0) (by omega)
    exact refDecode_some b off l cap f t w hb hcl hcm hn

set_option maxRecDepth 100000 in
set_option maxHeartbeats 3200000 in
theorem refEncode_yes (a : Option Addr) (cap : Nat) (l : List UInt8) (w : World) (hb : BAt w.heap.size w a l) (hn : a = none → cap = 0) (hl : l.length ≤ 200000) :
    Calls Tryd.prog 35 #[.slice a l.length cap] w (fun e w' => ∃ v, e = .returned (.tuple #[v, .bool true]) ∧ OwnB w.heap.size w' v (frB l) ∧ Below w.heap.size w w') := by
  have HB := Lib.hid hb
  have HN := Lib.hid (fun w => refNumber_any l.length w (by omega))
  have hlen := aheadB_len hl
  have hnb := numB_10 (n := l.length) (by omega)
  have HF : Hid (83 :: numB l.length ++ l = aheadB l) := Lib.hid rfl
  have HFr : Hid (aheadB l ++ Crc.le4 (Crc.crc (aheadB l)) = frB l) := Lib.hid rfl
  have hts : (Crc.le4 (Crc.crc (aheadB l))).length = 4 := rfl
  have HS := Lib.hid (fun w a cap (hb : BAt w.heap.size w a (aheadB l)) => refSum_any a cap (aheadB l) w hb)
  have H4 := Lib.hid (fun w => four_any (Crc.crc (aheadB l)) w)
  generalize Crc.le4 (Crc.crc (aheadB l)) = ts at *
  generalize (Crc.crc (aheadB l)).toNat = cs at *
  generalize numB l.length = ns at *
  generalize aheadB l = fs at *
  generalize frB l = rs at *
  have HO := Lib.hid (fun (B : Nat) (hB : B ≤ w.heap.size) => OwnB.new1 B w 83 hB)
  generalize hln : l.length = len at *
  have Hln := Lib.hid hln
  clear hb hln
  have hl' : (len : Int) ≤ 200000 := by omega
  have hwr : IntKind.u64.wrap (len : Int) = len := wrap_u64 (by omega) (by omega)
  go_enter Tryd.func35, Tryd.ntmps35
  go_wp2_with fail
  refine (HN.out _).mono ?_
  rintro e w1 ⟨v1, rfl, ho, hb⟩
  have O1 := Lib.hid ho
  have K1 := Lib.hid (((Below.refl w.heap.size w).alloc (Nat.le_refl _) (.cells #[.int .u8 83] 5)).trans (hb.mono (by simp)))
  have OF1 := Lib.hid ((HO.out w.heap.size (Nat.le_refl _)).stay hb)
  obtain ⟨a1, c1, rfl, hb1, _, _, hn1⟩ := ho.read2 (by omega)
  have HB1 := Lib.hid hb1
  have hs1 : w.heap.size ≤ w1.heap.size := K1.out.size
  clear ho hb hb1
  go_wp2_with (at_builtin; refine wpList_append_bytes rfl (.tmp 8) (.tmp 12) rfl w.heap.size w1.heap.size _ [83] rfl OF1.out a1 ns.length c1 ns rfl rfl HB1.out hn1 (by simp; omega) hs1 ?_)
  intro v2 w2 o2 gr2 _
  have O2 : Hid (OwnB w.heap.size w2 v2 (83 :: ns)) := Lib.hid o2
  have K2 := Lib.hid (OF1.out.grown K1.out hs1 gr2)
  have hs2 : w.heap.size ≤ w2.heap.size := K2.out.size
  clear o2 gr2
  go_wp2_with (at_builtin; refine wpList_append_bytes rfl (.tmp 13) (.tmp 14) rfl w.heap.size w.heap.size v2 (83 :: ns) rfl O2.out a len cap l Hln.out.symm rfl (HB.out.keep (grown_below K2.out none) (by simp)) hn (by simp; omega) hs2 ?_)
  intro v3 w3 o3 gr3 _
  have O3 : Hid (OwnB w.heap.size w3 v3 fs) := Lib.hid (by rw [← HF.out]; exact o3)
  have K3 := Lib.hid (O2.out.grown K2.out hs2 gr3)
  have hs3 : w.heap.size ≤ w3.heap.size := K3.out.size
  clear o3 gr3
  obtain ⟨a3, c3, rfl, hb3, _, _, hn3⟩ := O3.out.read2 (by omega)
  have HS3 := Lib.hid (HS.out w3 a3 c3 hb3)
  clear hb3
  go_wp2_with fail
  refine HS3.out.mono ?_
  rintro e w4 ⟨rfl, rfl⟩
  go_wp2_with fail
  refine (H4.out _).mono ?_
  rintro e w4 ⟨v4, rfl, ho, hb⟩
  have K4 := Lib.hid (K3.out.trans (hb.mono hs3))
  have O34 : Hid (OwnB w.heap.size w4 (.slice a3 fs.length c3) fs) := Lib.hid (OwnB.stay O3.out hb)
  have hs4 : w.heap.size ≤ w4.heap.size := K4.out.size
  obtain ⟨a4, c4, rfl, hb4, _, _, hn4⟩ := ho.read2 (by omega)
  have HB4 := Lib.hid hb4
  clear ho hb hb4
  go_wp2_with (at_builtin; refine wpList_append_bytes rfl (.tmp 16) (.tmp 19) rfl w.heap.size w4.heap.size (.slice a3 fs.length c3) fs rfl O34.out a4 4 c4 ts hts.symm rfl HB4.out hn4 (by omega) hs4 ?_)
  intro v5 w5 o5 gr5 _
  have O5 := Lib.hid o5
  have K5 := Lib.hid (O34.out.grown K4.out hs4 gr5)
  clear o5 gr5
  go_wp2_with fail
  go_ret2
  exact ⟨_, rfl, HFr.out ▸ O5.out, K5.out⟩
end Go.Proofs.YthdaibmminibhaaDoor
