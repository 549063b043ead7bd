/- The law FrameCut walked. -/
import Derived.Test.YthdaibmminibhaaDoorFReads
namespace Go.Proofs.YthdaibmminibhaaDoor
open Go.RowKit

theorem frB_top {l : List UInt8} (h : l.length ≤ 2000) : 6 ≤ (frB l).length ∧ (frB l).length ≤ 2015 := by
  have := numB_10 (n := l.length) (by omega)
  rw [frB_len, aheadB_eq]
  have h2 : (numB l.length).length ≤ 2 := (numB_len 1 l.length (by omega)).2
  omega
theorem own_empty2 (B : Nat) (w : World) (hB : B ≤ w.heap.size) : OwnB B (w.alloc (.cells #[] 5)) (.slice (some ⟨w.heap.size, 0, none⟩) 0 0) [] := own_empty B w hB
set_option maxRecDepth 100000 in
set_option maxHeartbeats 6400000 in
theorem FrameCut_short (G : Nat) (a a1 : Option Addr) (cap cap1 : Nat) (l m : List UInt8) (cut : Int) (w : World) (h : Env3 G w a l cap) (hn : a = none → cap = 0) (hF : SentF w) (hM : SentM w) (ht : Turns w) (hm : BAt w.heap.size w a1 m) (hn1 : a1 = none → cap1 = 0) (hl : l.length ≤ 2000) (hml : m.length ≤ 2000) :
    Calls Tryd.prog 11 #[.slice a l.length cap, .slice a1 m.length cap1, .int .i64 cut] w fun e w' => e = .returned (.bool true) ∧ Below w.heap.size w w' := by
  have HW := Lib.hid awake5_any
  have HT := Lib.hid ht
  have HE := Lib.hid (fun W (hW : Below w.heap.size w W) => encode_yes a cap l W (h.below hW).b hn (ht.keep (grown_below hW none)) (by omega))
  have HD := Lib.hid (fun W (hW : Below w.heap.size w W) (p : Option Addr) (c : Nat) (x : List UInt8) (hp : BAt W.heap.size W p x) (hc : x.length ≤ c) (hc2 : c ≤ 9223372036854775807) (hx : x.length ≤ 200020) =>
    decode_any G p x c W ⟨hp, hc, hc2, (h.below hW).s, (h.below hW).e, (h.below hW).g⟩ (hF.keep (grown_below hW none)) (hM.keep (grown_below hW none)) (ht.keep (grown_below hW none)) hx)
  have HB1 := Lib.hid (fun W (hW : Below w.heap.size w W) => hm.keep (grown_below hW none) (by simp))
  obtain ⟨f6, f2015⟩ := frB_top hl
  have hCut := Lib.hid (fun (c : Nat) (hc : c < (frB l).length) => decL_cut (l := l) (by omega) hc)
  have hMore := Lib.hid (fun (hm : m ≠ []) => decL_more (l := l) (m := m) (by omega) hm)
  have hSame := Lib.hid (decL_fr (l := l) (by omega))
  generalize frB l = fr at *
  obtain ⟨c, hc⟩ : ∃ c : Nat, IntKind.u64.wrap cut = (c : Int) := by
    have := IntKind.wrap_u64 cut
    exact ⟨(cut % 18446744073709551616).toNat, by rw [this]; omega⟩
  obtain ⟨k, hkm, hkl⟩ : ∃ k : Nat, ((c : Int).tmod fr.length) = (k : Int) ∧ k < fr.length := ⟨c % fr.length, by rw [Int.tmod_eq_emod_of_nonneg (by omega)]; rfl, Nat.mod_lt _ (by omega)⟩
  have hCk := Lib.hid (hCut.out k hkl)
  have hlk : (fr.take k).length = k := by rw [List.length_take]; omega
  obtain ⟨i0, hi, hz0, hz1, hz2⟩ := info_parts u8_info
  generalize hll : l.length = len at *
  generalize hmm : m.length = ml at *
  have Hmm := Lib.hid hmm
  obtain ⟨fl, hfl⟩ : ∃ fl, fl = fr.length := ⟨_, rfl⟩
  have Hfl := Lib.hid hfl
  rw [← hfl] at f6 f2015 hkm hkl
  have hk0 : (0 : Int) ≤ k := by omega
  have hk1 : (k : Int) < fl := by omega
  have Hlk := Lib.hid hlk
  have h1' : (len : Int) ≤ 2000 := by omega
  have h2' : (ml : Int) ≤ 2000 := by omega
  clear h hF hM ht hm hCut hll hmm hfl hlk
  go_enter Tryd.func11, Tryd.ntmps11
  go_wp2_with fail
  refine (HW.out _ HT.out).mono ?_
  rintro e w1 ⟨rfl, hb⟩
  have K1 := Lib.hid hb
  clear hb
  go_wp2_with fail
  refine (HE.out _ K1.out).mono ?_
  rintro e w2 ⟨v, rfl, ho, hb⟩
  have O2 := Lib.hid ho
  have K2 := Lib.hid (K1.out.trans (hb.mono K1.out.size))
  clear hb ho
  obtain ⟨a2, c2, rfl, hb2, hc2, hcm2, hn2⟩ := O2.out.read2 (by rw [← Hfl.out]; omega)
  have HB2 := Lib.hid hb2
  rw [← Hfl.out] at hc2 ⊢
  have hc2' : (fl : Int) ≤ c2 := by omega
  have hck : (k : Int) ≤ c2 := by omega
  clear hb2
  have HD1 := HD.out _ K2.out a2 c2 (fr.take k) (HB2.out.pre2 (by rw [← Hfl.out]; omega)) (by rw [Hlk.out]; omega) hcm2 (by rw [Hlk.out]; omega)
  rw [Hlk.out, hCk.out] at HD1
  have HD1' := Lib.hid HD1
  clear HD1
  go_wp2_with fail
  refine HD1'.out.mono ?_
  rintro e w3 ⟨v3, rfl, _, hb⟩
  have K3 := Lib.hid (K2.out.trans (hb.mono K2.out.size))
  have HB3 := Lib.hid (HB2.out.keep (grown_below hb none) (by simp))
  have hs3 : w.heap.size ≤ w3.heap.size := K3.out.size
  have OE : Hid (OwnB w.heap.size (w3.alloc (.cells #[] 5)) (.slice (some ⟨w3.heap.size, 0, none⟩) 0 0) []) := Lib.hid (own_empty _ _ hs3)
  have KE := Lib.hid (K3.out.alloc (by exact hs3) (.cells #[] 5))
  have BE := Lib.hid (HB3.out.keep (World.grownBy_alloc w3 (.cells #[] 5) none) (by simp))
  clear hb HD1'
  go_wp2_with (at_builtin; refine wpList_append_bytes rfl (.tmp 47) (.tmp 48) rfl w.heap.size w2.heap.size _ [] rfl OE.out a2 fl c2 fr Hfl.out rfl BE.out hn2 (by simp; omega) KE.out.size ?_)
  intro v4 w4 o4 gr4 _
  have O4 : Hid (OwnB w.heap.size w4 v4 fr) := Lib.hid o4
  have K4 := Lib.hid (OE.out.grown KE.out KE.out.size gr4)
  have hs4 : w.heap.size ≤ w4.heap.size := K4.out.size
  clear o4 gr4
  go_wp2_with (at_builtin; refine wpList_append_bytes rfl (.tmp 49) (.tmp 50) rfl w.heap.size w.heap.size v4 fr rfl O4.out a1 ml cap1 m Hmm.out.symm rfl (HB1.out _ K4.out) hn1 (by rw [← Hfl.out]; omega) hs4 ?_)
  intro v5 w5 o5 gr5 _
  have O5 : Hid (OwnB w.heap.size w5 v5 (fr ++ m)) := Lib.hid o5
  have K5 := Lib.hid (O4.out.grown K4.out hs4 gr5)
  have hs5 : w.heap.size ≤ w5.heap.size := K5.out.size
  have hfm : (fr ++ m).length = fl + ml := by rw [List.length_append, Hfl.out, Hmm.out]
  clear o5 gr5
  obtain ⟨a5, c5, rfl, hb5, hc5, hcm5, hn5⟩ := O5.out.read2 (by rw [hfm]; omega)
  have HD2 := Lib.hid (HD.out _ K5.out a5 c5 (fr ++ m) hb5 hc5 hcm5 (by rw [hfm]; omega))
  rw [hfm] at HD2 ⊢
  clear hb5 hfm
  by_cases hm0 : ml = 0
  · have hmn : m = [] := List.length_eq_zero_iff.1 (by rw [Hmm.out]; exact hm0)
    subst hmn
    rw [List.append_nil, hSame.out] at HD2
    subst hm0
    go_wp2_with fail
    refine HD2.out.mono ?_
    rintro e w6 ⟨v6, rfl, _, hb⟩
    have K6 := Lib.hid (K5.out.trans (hb.mono hs5))
    clear hb
    go_wp2_with fail
    go_ret
    exact ⟨rfl, K6.out⟩
  · have hmn : m ≠ [] := fun e => hm0 (by rw [← Hmm.out, e]; rfl)
    rw [hMore.out hmn] at HD2
    have tt : ((ml : Int) == 0) = false := beq_eq_false_iff_ne.2 (by omega)
    clear hm0 hmn
    go_wp2_with fail
    refine HD2.out.mono ?_
    rintro e w6 ⟨v6, rfl, _, hb⟩
    have K6 := Lib.hid (K5.out.trans (hb.mono hs5))
    clear hb
    go_wp2_with fail
    go_ret
    exact ⟨ret_bool (by simp), K6.out⟩
set_option maxHeartbeats 1600000 in
theorem FrameCut_long (a a1 : Option Addr) (cap cap1 len ml : Nat) (cut : Int) (w : World) (ht : Turns w) (hl : 2000 < len ∨ (len ≤ 2000 ∧ 2000 < ml)) :
    Calls Tryd.prog 11 #[.slice a len cap, .slice a1 ml cap1, .int .i64 cut] w fun e w' => e = .returned (.bool true) ∧ Below w.heap.size w w' := by
  have HW := Lib.hid awake5_any
  have HT := Lib.hid ht
  clear ht
  have hl' : (2000 : Int) < len ∨ ((len : Int) ≤ 2000 ∧ (2000 : Int) < ml) := by omega
  clear hl
  rcases hl' with h1 | ⟨h1, h2⟩
  all_goals
    go_enter Tryd.func11, Tryd.ntmps11
    go_wp2_with fail
    refine (HW.out _ HT.out).mono ?_
    rintro e w1 ⟨rfl, hb⟩
    have K1 := Lib.hid hb
    clear hb
    go_wp2_with fail
    refine (HW.out _ (HT.out.keep (grown_below K1.out none))).mono ?_
    rintro e w2 ⟨rfl, hb⟩
    have K2 := Lib.hid (K1.out.trans (hb.mono K1.out.size))
    clear hb
    go_wp2_with fail
    go_ret
    exact ⟨rfl, K2.out⟩
theorem FrameCut_any (G : Nat) (a a1 : Option Addr) (cap cap1 : Nat) (l m : List UInt8) (cut : Int) (w : World) (h : Env3 G w a l cap) (hn : a = none → cap = 0) (hF : SentF w) (hM : SentM w) (ht : Turns w) (hm : BAt w.heap.size w a1 m) (hn1 : a1 = none → cap1 = 0) :
    Calls Tryd.prog 11 #[.slice a l.length cap, .slice a1 m.length cap1, .int .i64 cut] w fun e w' => e = .returned (.bool true) ∧ Below w.heap.size w w' := by
  by_cases h1 : l.length ≤ 2000
  · by_cases h2 : m.length ≤ 2000
    · exact FrameCut_short G a a1 cap cap1 l m cut w h hn hF hM ht hm hn1 h1 h2
    · exact FrameCut_long a a1 cap cap1 _ _ cut w ht (.inr ⟨h1, by omega⟩)
  · exact FrameCut_long a a1 cap cap1 _ _ cut w ht (.inl (by omega))
end Go.Proofs.YthdaibmminibhaaDoor
