/- The law FrameWrites walked. -/
import Derived.Test.YthdaibmminibhaaDoorFTurn
namespace Go.Proofs.YthdaibmminibhaaDoor
open Go.RowKit

theorem BAt.ne {B : Nat} {w : World} {b off : Nat} {l : List UInt8} (h : BAt B w (some ⟨b, off, none⟩) l) {g : Nat} (hg : b ≠ g) (q : Nat) (v : Value) : BAt B (w.setCell ⟨g, q, none⟩ v) (some ⟨b, off, none⟩) l := by
  refine ⟨h.1, ?_⟩
  rcases h.2 with h0 | ⟨b', off', e, hlt, hc⟩
  · exact .inl h0
  · cases e
    exact .inr ⟨b, off, rfl, hlt, fun i hi => by rw [World.cell?_setCell_other _ ⟨g, q, none⟩ ⟨b, off + i, none⟩ _ (by simp; try (intro h; exact absurd h.symm hg)), hc i hi]⟩
/-- What holds while the bytes handed in are turned up by one. -/
structure Up (w : World) (ain af a : Option Addr) (fr l : List UInt8) (wr : World) : Prop where
  low : Below w.heap.size w wr
  f : BAt wr.heap.size wr af fr
  b : BAt wr.heap.size wr a l
  cells : ∀ i, i < l.length → ∃ g off y, ain = some ⟨g, off, none⟩ ∧ wr.cell? ⟨g, off + i, none⟩ = some (.int .u8 y) ∧ wr.frozen? ⟨g, off + i, none⟩ = false ∧ w.heap.size ≤ g ∧ (∀ b o, af = some ⟨b, o, none⟩ → b ≠ g) ∧ (∀ b o, a = some ⟨b, o, none⟩ → b ≠ g)
theorem Up.set {w wr : World} {af a : Option Addr} {g off : Nat} {fr l : List UInt8} (h : Up w (some ⟨g, off, none⟩) af a fr l wr) {i : Nat} (hi : i < l.length) (y : Int) : Up w (some ⟨g, off, none⟩) af a fr l (wr.setCell ⟨g, off + i, none⟩ (.int .u8 y)) := by
  obtain ⟨g', off', z, e, hc, hf, hg, h1, h2⟩ := h.cells i hi
  cases e
  have hsz : (wr.setCell ⟨g, off + i, none⟩ (.int .u8 y)).heap.size = wr.heap.size := by simp
  refine ⟨h.low.setCell (p := ⟨g, off + i, none⟩) hg _, ?_, ?_, fun j hj => ?_⟩
  · rw [hsz]
    cases af with
    | none =>
      obtain rfl : fr = [] := by rcases h.f.2 with h | ⟨_, _, h, _⟩; exact h; cases h
      exact ⟨by simp, .inl rfl⟩
    | some ad =>
      rcases h.f.2 with h0 | ⟨b, o, e, _, _⟩
      · exact ⟨h.f.1, .inl h0⟩
      · cases e; exact h.f.ne (h1 b o rfl) _ _
  · rw [hsz]
    cases a with
    | none =>
      obtain rfl : l = [] := by rcases h.b.2 with h | ⟨_, _, h, _⟩; exact h; cases h
      exact ⟨by simp, .inl rfl⟩
    | some ad =>
      rcases h.b.2 with h0 | ⟨b, o, e, _, _⟩
      · exact ⟨h.b.1, .inl h0⟩
      · cases e; exact h.b.ne (h2 b o rfl) _ _
  · obtain ⟨g', off', z', e, hc', hf', _⟩ := h.cells j hj
    cases e
    by_cases e : j = i
    · subst e
      exact ⟨g, off, y, rfl, cell_set_same hc, by simpa using hf, hg, h1, h2⟩
    · exact ⟨g, off, z', rfl, by rw [World.cell?_setCell_other _ ⟨g, off + i, none⟩ ⟨g, off + j, none⟩ _ (by simp; try omega), hc'], by simpa using hf', hg, h1, h2⟩
theorem BAt.blk {B : Nat} {w : World} {b o : Nat} {l : List UInt8} (h : BAt B w (some ⟨b, o, none⟩) l) (hl : l ≠ []) : b < B := by
  rcases h.2 with h0 | ⟨b', o', e, hlt, _⟩
  · exact absurd h0 hl
  · cases e; exact hlt
set_option maxRecDepth 100000 in
set_option maxHeartbeats 6400000 in
theorem FrameWrites_short (G : Nat) (a : Option Addr) (cap : Nat) (l : List UInt8) (w : World) (h : Env3 G w a l cap) (hn : a = none → cap = 0) (hF : SentF w) (hM : SentM w) (ht : Turns w) (hl : l.length ≤ 5000) :
    Calls Tryd.prog 6 #[.slice a l.length cap] w fun e w' => e = .returned (.bool true) ∧ Below w.heap.size w w' := by
  have HW := Lib.hid awake5_any
  have HT := Lib.hid ht
  have HE := Lib.hid (fun W (hW : Below w.heap.size w W) (p : Option Addr) (c : Nat) (hp : BAt W.heap.size W p l) (hn : p = none → c = 0) => encode_yes p c l W hp hn (ht.keep (grown_below hW none)) (by omega))
  have HR := Lib.hid (fun W (hW : Below w.heap.size w W) => refEncode_yes a cap l W (h.below hW).b hn (by omega))
  have HD := Lib.hid (fun W (hW : Below w.heap.size w W) (p : Option Addr) (c : Nat) (x : List UInt8) (hp : BAt W.heap.size W p x) (hc : x.length ≤ c) (hc2 : c ≤ 9223372036854775807) (hx : x.length ≤ 200020) =>
    decode_any G p x c W ⟨hp, hc, hc2, (h.below hW).s, (h.below hW).e, (h.below hW).g⟩ (hF.keep (grown_below hW none)) (hM.keep (grown_below hW none)) (ht.keep (grown_below hW none)) hx)
  have HB := Lib.hid h.b
  have hSame := Lib.hid (decL_fr (l := l) (by omega))
  have hfr := aheadB_len (l := l) (by omega)
  have hfl := frB_len l
  generalize frB l = fr at *
  have hfl2 : 6 ≤ fr.length ∧ fr.length ≤ 200020 := by
    have := numB_10 (n := l.length) (by omega)
    rw [aheadB_eq] at hfl
    omega
  have hfne : fr ≠ [] := fun e => by rw [e] at hfl2; simp at hfl2
  obtain ⟨fl, hfle⟩ : ∃ fl, fl = fr.length := ⟨_, rfl⟩
  have Hfl := Lib.hid hfle
  have Hfne := Lib.hid hfne
  rw [← hfle] at hfl2
  obtain ⟨len, hle⟩ : ∃ len, len = l.length := ⟨_, rfl⟩
  have Hle := Lib.hid hle
  rw [← hle] at hl ⊢
  rw [← hle] at HR
  have h1' : (len : Int) ≤ 5000 := by omega
  clear h hF hM ht hfl hfr hfle hfne hle
  go_enter Tryd.func6, Tryd.ntmps6
  go_wp2_with fail
  refine (HW.out _ HT.out).mono ?_
  rintro e w1 ⟨rfl, hb⟩
  have K1 := Lib.hid hb
  have hs1 : w.heap.size ≤ w1.heap.size := K1.out.size
  have OE : Hid (OwnB w.heap.size (w1.alloc (.cells #[] 5)) (.slice (some ⟨w1.heap.size, 0, none⟩) 0 0) []) := Lib.hid (own_empty _ _ hs1)
  have KE := Lib.hid (K1.out.alloc (by exact hs1) (.cells #[] 5))
  have BE := Lib.hid (HB.out.keep (grown_below KE.out none) (by simp))
  clear hb
  go_wp2_with (at_builtin; refine wpList_append_bytes rfl (.tmp 19) (.tmp 20) rfl w.heap.size w.heap.size _ [] rfl OE.out a len cap l Hle.out rfl BE.out hn (by simp; omega) KE.out.size ?_)
  intro v2 w2 o2 gr2 _
  have O2 : Hid (OwnB w.heap.size w2 v2 l) := Lib.hid o2
  have K2 := Lib.hid (OE.out.grown KE.out KE.out.size gr2)
  clear o2 gr2
  obtain ⟨a2, c2, rfl, hb2, hc2, hcm2, hn2⟩ := O2.out.read2 (by rw [← Hle.out]; omega)
  have HE2 := Lib.hid (HE.out _ K2.out a2 c2 hb2 hn2)
  have B2 := Lib.hid hb2
  rw [← Hle.out] at HE2 hc2 ⊢
  clear hb2
  go_wp2_with fail
  refine HE2.out.mono ?_
  rintro e w3 ⟨v3, rfl, ho, hb⟩
  have O3 := Lib.hid ho
  have K3 := Lib.hid (K2.out.trans (hb.mono K2.out.size))
  have L3 := Lib.hid hb
  clear ho hb
  go_wp2_with fail
  refine (HR.out _ K3.out).mono ?_
  rintro e w4 ⟨v4, rfl, ho, hb⟩
  have K4 := Lib.hid (K3.out.trans (hb.mono K3.out.size))
  have O34 := Lib.hid (O3.out.stay hb)
  have O24 := Lib.hid ((O2.out.stay L3.out).stay hb)
  have B4 := Lib.hid (HB.out.keep (grown_below K4.out none) (by simp))
  obtain ⟨a3, c3, rfl, hb3, hc3, hcm3, hn3⟩ := O34.out.read2 (by rw [← Hfl.out]; omega)
  obtain ⟨a4, c4, rfl, hb4, _, _, _⟩ := ho.read2 (by rw [← Hfl.out]; omega)
  have hs3 := at_string hb3 c3
  have hs4 := at_string hb4 c4
  have U4 : Hid (Up w a2 a3 a fr l w4) := Lib.hid ⟨K4.out, hb3, B4.out.mono K4.out.size, fun i hi => by
    obtain ⟨a', c', e', hbx, _⟩ := O24.out.read2 (by rw [← Hle.out]; omega)
    cases e'
    obtain ⟨g, off, rfl, hlt, hc⟩ := hbx.at hi
    have hg : w.heap.size ≤ g := O24.out.range g rfl
    obtain ⟨_, _, e2, hlt2, _⟩ := B2.out.at hi
    cases e2
    refine ⟨g, off, _, rfl, hc, O24.out.free _, hg, fun b o e => ?_, fun b o e => ?_⟩
    · subst e
      have : w2.heap.size ≤ b := O34.out.range b rfl
      omega
    · subst e
      have hlne : l ≠ [] := fun e => by rw [e] at hi; simp at hi
      have := HB.out.blk hlne
      omega⟩
  rw [← Hfl.out] at hc3 hs3 hs4 ⊢
  clear ho hb hb3 hb4
  go_wp2_with fail
  clear hs3 hs4
  go_loopw [47] (fun i wr => ∃ (j : Nat), i = .int .i64 j ∧ j ≤ len ∧ Hid (Up w a2 a3 a fr l wr)) (fun i _ => len - (intOf i).toNat)
  case atStart => exact ⟨0, rfl, by omega, U4⟩
  case round =>
    obtain ⟨j, rfl, hj, U⟩ := hrel
    by_cases hlt : j < len
    · obtain ⟨g, off, y, rfl, cj, fj, _⟩ := U.out.cells j (by rw [← Hle.out]; exact hlt)
      have U2 := Lib.hid (fun y => U.out.set (i := j) (by rw [← Hle.out]; exact hlt) y)
      go_wp2_with fail
      go_roundw
      case rel => exact ⟨j + 1, by go_num, by omega, Lib.hid (U2.out _)⟩
      case measure => simp [intOf]; omega
    · obtain rfl : j = len := by omega
      have HDx := HD.out _ U.out.low a3 c3 fr U.out.f (by rw [← Hfl.out]; exact hc3) hcm3 (by rw [← Hfl.out]; omega)
      rw [hSame.out, ← Hfl.out] at HDx
      have HDy := Lib.hid HDx
      clear HDx
      go_wp2_with fail
      refine HDy.out.mono ?_
      rintro e w5 ⟨v5, rfl, ho, hb⟩
      have K5 := Lib.hid (U.out.low.trans (hb.mono U.out.low.size))
      obtain ⟨a5, c5, rfl, hb5, _, _, _⟩ := ho.read2 (by rw [← Hle.out]; omega)
      have hs5 := at_string hb5 c5
      have hs6 := at_string (U.out.b.keep (grown_below hb none) (by simp)) cap
      rw [← Hle.out] at hs5 hs6 ⊢
      clear ho hb hb5
      go_wp2_with fail
      go_ret
      exact ⟨ret_bool (by simp), K5.out⟩
set_option maxHeartbeats 1600000 in
theorem FrameWrites_long (a : Option Addr) (cap len : Nat) (w : World) (ht : Turns w) (hl : 5000 < len) :
    Calls Tryd.prog 6 #[.slice a len cap] w fun e w' => e = .returned (.bool true) ∧ Below w.heap.size w w' := by
  have HW := Lib.hid awake5_any
  have HT := Lib.hid ht
  have hl' : (5000 : Int) < len := by omega
  clear ht hl
  go_enter Tryd.func6, Tryd.ntmps6
  go_wp2_with fail
  refine (HW.out _ HT.out).mono ?_
  rintro e w1 ⟨rfl, hb⟩
  have K1 := Lib.hid hb
  clear hb
  go_wp2_with fail
  refine (HW.out _ (HT.out.keep (grown_below K1.out none))).mono ?_
  rintro e w2 ⟨rfl, hb⟩
  have K2 := Lib.hid (K1.out.trans (hb.mono K1.out.size))
  clear hb
  go_wp2_with fail
  go_ret
  exact ⟨rfl, K2.out⟩
theorem FrameWrites_any (G : Nat) (a : Option Addr) (cap : Nat) (l : List UInt8) (w : World) (h : Env3 G w a l cap) (hn : a = none → cap = 0) (hF : SentF w) (hM : SentM w) (ht : Turns w) :
    Calls Tryd.prog 6 #[.slice a l.length cap] w fun e w' => e = .returned (.bool true) ∧ Below w.heap.size w w' := by
  by_cases h1 : l.length ≤ 5000
  · exact FrameWrites_short G a cap l w h hn hF hM ht h1
  · exact FrameWrites_long a cap _ w ht (by omega)
end Go.Proofs.YthdaibmminibhaaDoor
