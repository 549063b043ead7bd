/- The law FrameTurned walked. -/
import Derived.Test.YthdaibmminibhaaDoorFCut
namespace Go.Proofs.YthdaibmminibhaaDoor
open Go.RowKit

theorem OwnB.free {B : Nat} {w : World} {g o n c : Nat} {l : List UInt8} (h : OwnB B w (.slice (some ⟨g, o, none⟩) n c) l) (q : Nat) : w.frozen? ⟨g, q, none⟩ = false := by
  rcases h.2 with ⟨hv, _⟩ | ⟨g', cap, cur, hv, _, hc, _⟩
  · cases hv
  · cases hv
    unfold World.frozen?
    rw [hc]; rfl
theorem BAt.set {B : Nat} {w : World} {g0 off0 : Nat} {l : List UInt8} (h : BAt B w (some ⟨g0, off0, none⟩) l) {q : Nat} (hq : q < l.length) (z : UInt8) : BAt B (w.setCell ⟨g0, off0 + q, none⟩ (bV z)) (some ⟨g0, off0, none⟩) (l.set q z) := by
  obtain ⟨b, off, e, hlt, hc⟩ := h.at hq
  cases e
  refine ⟨by rw [List.length_set]; exact h.1, .inr ⟨g0, off0, rfl, hlt, fun i hi => ?_⟩⟩
  rw [List.length_set] at hi
  obtain ⟨b', off', e', _, hci⟩ := h.at hi
  cases e'
  by_cases e : i = q
  · subst e
    rw [cell_set_same hc]
    simp [List.getD, hq]
  · rw [World.cell?_setCell_other _ ⟨g0, off0 + q, none⟩ ⟨g0, off0 + i, none⟩ _ (by simp; try omega), hci]
    simp [List.getD, List.getElem?_set_ne (Ne.symm e)]
theorem BAt.set2 {w : World} {g0 off0 : Nat} {l : List UInt8} (h : BAt w.heap.size w (some ⟨g0, off0, none⟩) l) {q : Nat} (hq : q < l.length) (z : UInt8) : BAt (w.setCell ⟨g0, off0 + q, none⟩ (bV z)).drew.heap.size (w.setCell ⟨g0, off0 + q, none⟩ (bV z)).drew (some ⟨g0, off0, none⟩) (l.set q z) := by
  have h2 : BAt (w.setCell ⟨g0, off0 + q, none⟩ (bV z)).heap.size (w.setCell ⟨g0, off0 + q, none⟩ (bV z)) (some ⟨g0, off0, none⟩) (l.set q z) := (h.set hq z).mono (by simp)
  exact h2
theorem and_bit {D j : Nat} (hD : D < 4294967296) : bits .and .u32 ((D : Int) / 2 ^ j) 1 = if D.testBit j then 1 else 0 := by
  have e : ((D : Int) / 2 ^ j) = ((D / 2 ^ j : Nat) : Int) := by push_cast; rfl
  have hm : D / 2 ^ j < 4294967296 := Nat.lt_of_le_of_lt (Nat.div_le_self _ _) hD
  rw [e, Nat.testBit_eq_decide_div_mod_eq]
  generalize D / 2 ^ j = m at *
  show IntKind.u32.wrap ((BitVec.ofInt 32 (m : Int) &&& BitVec.ofInt 32 1).toNat : Int) = _
  have e1 : (BitVec.ofInt 32 (m : Int) &&& BitVec.ofInt 32 1).toNat = m % 2 := by
    rw [BitVec.toNat_and, BitVec.ofInt_natCast, show BitVec.ofInt 32 1 = 1#32 from rfl, BitVec.toNat_ofNat, Nat.mod_eq_of_lt (show m < 2 ^ 32 from hm)]
    exact Nat.and_one_is_mod m
  rw [e1]
  have h2 := Nat.mod_lt m (show 0 < 2 by omega)
  have : m % 2 = 0 ∨ m % 2 = 1 := by omega
  rcases this with h | h <;> rw [h] <;> rfl
theorem xor_u8 (x : UInt8) {r : Nat} (hr : r < 8) : bits .xor .u8 (x.toNat : Int) (2 ^ r % 256) = ((UInt8.ofNat (x.toNat ^^^ 2 ^ r)).toNat : Int) := by
  have h2 : 2 ^ r < 256 := by
    have : 2 ^ r ≤ 2 ^ 7 := Nat.pow_le_pow_right (by omega) (by omega)
    have e : (2 : Nat) ^ 7 = 128 := rfl
    omega
  have e : ((2 : Int) ^ r % 256) = ((2 ^ r : Nat) : Int) := by
    have : ((2 ^ r : Nat) : Int) = (2 : Int) ^ r := by push_cast; rfl
    rw [← this]; exact Int.emod_eq_of_lt (Int.natCast_nonneg _) (Int.ofNat_lt.2 h2)
  rw [e]
  generalize 2 ^ r = m at *
  have hx := x.toNat_lt
  show IntKind.u8.wrap ((BitVec.ofInt 8 (x.toNat : Int) ^^^ BitVec.ofInt 8 (m : Int)).toNat : Int) = _
  have hz : x.toNat ^^^ m < 256 := Nat.xor_lt_two_pow (n := 8) hx h2
  have e1 : (BitVec.ofInt 8 (x.toNat : Int) ^^^ BitVec.ofInt 8 (m : Int)).toNat = x.toNat ^^^ m := by
    rw [BitVec.toNat_xor, BitVec.ofInt_natCast, BitVec.ofInt_natCast, BitVec.toNat_ofNat, BitVec.toNat_ofNat, Nat.mod_eq_of_lt (show x.toNat < 2 ^ 8 from hx), Nat.mod_eq_of_lt (show m < 2 ^ 8 from h2)]
  rw [e1, UInt8.toNat_ofNat_of_lt' (by simp [UInt8.size]; exact hz)]
  generalize x.toNat ^^^ m = z at *
  simp [IntKind.wrap, IntKind.signed, IntKind.bits]
  omega
set_option maxRecDepth 100000 in
set_option maxHeartbeats 6400000 in
theorem FrameTurned_short (G : Nat) (a : Option Addr) (cap : Nat) (l : List UInt8) (at' : Int) (D : Nat) (w : World) (h : Env3 G w a l cap) (hn : a = none → cap = 0) (hF : SentF w) (hM : SentM w) (ht : Turns w) (hl : l.length ≤ 2000) (hD0 : 0 < D) (hD : D < 4294967296) :
    Calls Tryd.prog 10 #[.slice a l.length cap, .int .i64 at', .int .u32 D] w fun e w' => e = .returned (.bool true) ∧ Below w.heap.size w w' := by
  have HW := Lib.hid awake5_any
  have HT := Lib.hid ht
  have HE := Lib.hid (fun W (hW : Below w.heap.size w W) => encode_yes a cap l W (h.below hW).b hn (ht.keep (grown_below hW none)) (by omega))
  have HD := Lib.hid (fun W (hW : Below w.heap.size w W) (p : Option Addr) (c : Nat) (x : List UInt8) (hp : BAt W.heap.size W p x) (hc : x.length ≤ c) (hc2 : c ≤ 9223372036854775807) (hx : x.length ≤ 200020) =>
    decode_any G p x c W ⟨hp, hc, hc2, (h.below hW).s, (h.below hW).e, (h.below hW).g⟩ (hF.keep (grown_below hW none)) (hM.keep (grown_below hW none)) (ht.keep (grown_below hW none)) hx)
  obtain ⟨f6, f2015⟩ := frB_top hl
  have hTu := Lib.hid (fun (g : List UInt8) (k : Nat) (h : TurnedBy (frB l) g D k 32) (hk : k + 32 ≤ 8 * (frB l).length) => decL_turned h hk hD0 hD)
  generalize frB l = fr at *
  obtain ⟨fl, hfl⟩ : ∃ fl, fl = fr.length := ⟨_, rfl⟩
  have Hfl := Lib.hid hfl
  rw [← hfl] at f6 f2015
  obtain ⟨c, hc⟩ : ∃ c : Nat, IntKind.u64.wrap at' = (c : Int) := by
    have := IntKind.wrap_u64 at'
    exact ⟨(at' % 18446744073709551616).toNat, by rw [this]; omega⟩
  obtain ⟨k, hkw, hkl⟩ : ∃ k : Nat, wrap64 ((c : Int) % (8 * (fl : Int) - 31)) = (k : Int) ∧ k + 32 ≤ 8 * fl := by
    have h0 : 0 ≤ (c : Int) % (8 * (fl : Int) - 31) := Int.emod_nonneg _ (by omega)
    have h1 : (c : Int) % (8 * (fl : Int) - 31) < 8 * (fl : Int) - 31 := Int.emod_lt_of_pos _ (by omega)
    exact ⟨((c : Int) % (8 * (fl : Int) - 31)).toNat, by unfold wrap64; omega, by omega⟩
  generalize hll : l.length = len at *
  have h1' : (len : Int) ≤ 2000 := by omega
  have hD1 : ((D : Int) == 0) = false := beq_eq_false_iff_ne.2 (by omega)
  clear h hF hM ht hfl hll
  go_enter Tryd.func10, Tryd.ntmps10
  go_wp2_with fail
  refine (HW.out _ HT.out).mono ?_
  rintro e w1 ⟨rfl, hb⟩
  have K1 := Lib.hid hb
  clear hb
  go_wp2_with fail
  refine (HE.out _ K1.out).mono ?_
  rintro e w2 ⟨v, rfl, ho, hb⟩
  have O2 := Lib.hid ho
  have K2 := Lib.hid (K1.out.trans (hb.mono K1.out.size))
  clear hb ho
  obtain ⟨a2, c2, rfl, hb2, hc2, hcm2, hn2⟩ := O2.out.read2 (by rw [← Hfl.out]; omega)
  have HB2 := Lib.hid hb2
  rw [← Hfl.out] at hc2 ⊢
  have hc2' : (fl : Int) ≤ c2 := by omega
  clear hb2
  obtain ⟨g0, off0, rfl, _, _⟩ := HB2.out.at (i := 0) (by rw [← Hfl.out]; omega)
  have hg0 : w.heap.size ≤ g0 := Nat.le_trans K1.out.size (O2.out.range g0 rfl)
  have F2 : Hid (∀ q, w2.frozen? ⟨g0, q, none⟩ = false) := Lib.hid O2.out.free
  have Hg0 := Lib.hid hg0
  clear hg0
  go_wp2_with fail
  go_loopw [11] (fun i wr => ∃ (j : Nat) (g : List UInt8), i = .int .i64 j ∧ j ≤ 32 ∧ Hid (TurnedBy fr g D k j) ∧ Hid (Below w.heap.size w wr) ∧ Hid (BAt wr.heap.size wr (some ⟨g0, off0, none⟩) g) ∧ Hid (∀ q, wr.frozen? ⟨g0, q, none⟩ = false)) (fun i _ => 32 - (intOf i).toNat)
  case atStart => exact ⟨0, fr, rfl, by omega, Lib.hid (TurnedBy.start _ _ _), K2, HB2, F2⟩
  case round =>
    obtain ⟨j, g, rfl, hj, TB, K, BB, FF⟩ := hrel
    have hgl : Hid (g.length = fl) := Lib.hid (by rw [TB.out.1, Hfl.out])
    by_cases h32 : j < 32
    · by_cases hb : D.testBit j = true
      · have e1 : bits .and .u32 ((D : Int) / 2 ^ j) 1 = 1 := by rw [and_bit hD, if_pos hb]
        have T2 := Lib.hid (TB.out.turn hb (by rw [← Hfl.out]; omega))
        have hq : Hid ((k + j) / 8 < g.length) := Lib.hid (by rw [hgl.out]; omega)
        have cq : wr.cell? ⟨g0, off0 + (k + j) / 8, none⟩ = some (.int .u8 ((g.getD ((k + j) / 8) 0).toNat : Int)) := by
          obtain ⟨_, _, e, _, h⟩ := BB.out.at hq.out
          cases e
          exact h
        have fq := FF.out (off0 + (k + j) / 8)
        have e2 := xor_u8 (g.getD ((k + j) / 8) 0) (r := (k + j) % 8) (by omega)
        have B2 := Lib.hid (fun z => BB.out.set2 hq.out z)
        generalize g.getD ((k + j) / 8) 0 = x at *
        generalize UInt8.ofNat (x.toNat ^^^ 2 ^ ((k + j) % 8)) = z at *
        have K4 := Lib.hid ((K.out.setCell (p := ⟨g0, off0 + (k + j) / 8, none⟩) Hg0.out (bV z)).drew)
        clear hb
        go_wp2_with fail
        go_region
        go_wp2_with fail
        go_roundw
        case rel => exact ⟨j + 1, g.set ((k + j) / 8) z, by go_num, by omega, T2, K4, Lib.hid (B2.out z), Lib.hid (fun q => by have := FF.out q; simpa using this)⟩
        case measure => simp [intOf]; omega
      · have e1 : bits .and .u32 ((D : Int) / 2 ^ j) 1 = 0 := by rw [and_bit hD, if_neg hb]
        have T2 := Lib.hid (TB.out.skip (by simpa using hb))
        clear hb
        go_wp2_with fail
        go_roundw
        case rel => exact ⟨j + 1, g, by go_num, by omega, T2, K, BB, FF⟩
        case measure => simp [intOf]; omega
    · obtain rfl : j = 32 := by omega
      have HDx := HD.out _ K.out (some ⟨g0, off0, none⟩) c2 g BB.out (by rw [hgl.out]; omega) hcm2 (by rw [hgl.out]; omega)
      rw [hgl.out] at HDx
      have hres := hTu.out g k TB.out (by rw [← Hfl.out]; omega)
      rcases hres with hres | hres
      all_goals
        rw [hres] at HDx
        have HDy := Lib.hid HDx
        clear HDx hres
        go_wp2_with fail
        refine HDy.out.mono ?_
        rintro e w5 ⟨v5, rfl, ho, hb⟩
        have K5 := Lib.hid (K.out.trans (hb.mono K.out.size))
        obtain ⟨a5, c5, rfl, _, _, _, _⟩ := ho.read2 (by simp)
        clear ho hb
        go_wp2_with fail
        go_ret
        exact ⟨ret_bool (by simp), K5.out⟩
set_option maxHeartbeats 1600000 in
theorem FrameTurned_long (a : Option Addr) (cap len : Nat) (at' : Int) (D : Nat) (w : World) (ht : Turns w) (hl : 2000 < len ∨ (len ≤ 2000 ∧ D = 0)) :
    Calls Tryd.prog 10 #[.slice a len cap, .int .i64 at', .int .u32 D] w fun e w' => e = .returned (.bool true) ∧ Below w.heap.size w w' := by
  have HW := Lib.hid awake5_any
  have HT := Lib.hid ht
  clear ht
  have hl' : (2000 : Int) < len ∨ ((len : Int) ≤ 2000 ∧ ((D : Int) == 0) = true) := by
    rcases hl with h | ⟨h, h2⟩
    · exact .inl (by omega)
    · exact .inr ⟨by omega, beq_iff_eq.2 (by omega)⟩
  clear hl
  rcases hl' with h1 | ⟨h1, h2⟩
  all_goals
    go_enter Tryd.func10, Tryd.ntmps10
    go_wp2_with fail
    refine (HW.out _ HT.out).mono ?_
    rintro e w1 ⟨rfl, hb⟩
    have K1 := Lib.hid hb
    clear hb
    go_wp2_with fail
    refine (HW.out _ (HT.out.keep (grown_below K1.out none))).mono ?_
    rintro e w2 ⟨rfl, hb⟩
    have K2 := Lib.hid (K1.out.trans (hb.mono K1.out.size))
    clear hb
    go_wp2_with fail
    go_ret
    exact ⟨rfl, K2.out⟩
theorem FrameTurned_any (G : Nat) (a : Option Addr) (cap : Nat) (l : List UInt8) (at' n : Int) (w : World) (h : Env3 G w a l cap) (hn : a = none → cap = 0) (hF : SentF w) (hM : SentM w) (ht : Turns w) (hb : 0 ≤ n ∧ n ≤ 4294967295) :
    Calls Tryd.prog 10 #[.slice a l.length cap, .int .i64 at', .int .u32 n] w fun e w' => e = .returned (.bool true) ∧ Below w.heap.size w w' := by
  obtain ⟨D, rfl⟩ : ∃ D : Nat, n = D := ⟨n.toNat, by omega⟩
  by_cases h1 : l.length ≤ 2000
  · by_cases h2 : D = 0
    · exact FrameTurned_long a cap _ at' D w ht (.inr ⟨h1, h2⟩)
    · exact FrameTurned_short G a cap l at' D w h hn hF hM ht h1 (by omega) (by omega)
  · exact FrameTurned_long a cap _ at' D w ht (.inl (by omega))
end Go.Proofs.YthdaibmminibhaaDoor
