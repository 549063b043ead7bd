/- Reading a number where three errors of codec's alone can be read; contracts of ReadNumber there. -/
import Derived.Test.YthdaibmminibhaaDoorReadX
namespace Go.Proofs.YthdaibmminibhaaDoor
open Go.RowKit

/-- The program's errors of numbers can be read. -/
def Sent3 (G : Nat) (w : World) : Prop := (13 < G ∧ ∃ t p, w.cell? ⟨13, 0, none⟩ = some (.iface t p)) ∧ (1 < G ∧ ∃ t p, w.cell? ⟨1, 0, none⟩ = some (.iface t p))
  ∧ (2 < G ∧ ∃ t p, w.cell? ⟨2, 0, none⟩ = some (.iface t p)) ∧ True
theorem Sent3.keep {G g : Nat} {w w' : World} (h : Sent3 G w) (hg : w.grownBy w' (some g)) (hG : G ≤ g) : Sent3 G w' :=
  ⟨one_keep h.1 hg hG, one_keep h.2.1 hg hG, one_keep h.2.2.1 hg hG, trivial⟩
theorem Sent3.none {G : Nat} {w w' : World} (h : Sent3 G w) (hg : w.grownBy w' none) : Sent3 G w' := h.keep (g := G) (grown_none hg _) (Nat.le_refl _)
set_option maxHeartbeats 800000 in
theorem cut3_any (G g : Nat) (a : Option Addr) (len cap p : Nat) (w : World) (hR : Rd g a len cap p w) (hS : Sent3 G w) :
    Calls Tryd.prog 107 #[.pointer (some ⟨g, 0, none⟩)] w fun e w' => ∃ v n, e = .returned v ∧ Flaw v ∧ w' = w.drewN n := by
  obtain ⟨c0, c1, f1, hlt⟩ := hR.cells
  obtain ⟨_, t, q, hv⟩ := hS.1
  clear hS hR
  go_enter Tryd.func107, Tryd.ntmps107
  go_wp2_with fail
  go_quiet (fail)
  go_wp2_with fail
  go_ret
  exact ⟨_, _, rfl, ⟨_, _, _, rfl⟩, rfl⟩
set_option maxHeartbeats 1600000 in
theorem next3_end (G g : Nat) (a : Option Addr) (len cap : Nat) (w : World) (hR : Rd g a len cap len w) (hS : Sent3 G w) :
    Calls Tryd.prog 83 #[.pointer (some ⟨g, 0, none⟩)] w fun e w' => ∃ v, e = .returned (.tuple #[.int .u8 0, v]) ∧ Flaw v ∧ Goes g a len cap w len w' := by
  have HC := Lib.hid (fun n => cut3_any G g a len cap len (w.drewN n) (hR.drewN n) hS)
  have HR := Lib.hid hR
  obtain ⟨c0, c1, f1, hlt⟩ := hR.cells
  clear hS hR
  go_enter Tryd.func83, Tryd.ntmps83
  go_wp2_with fail
  go_quiet (fail)
  go_wp2_with fail
  refine (HC.out _).mono ?_
  rintro e w' ⟨v, n, rfl, hv, rfl⟩
  go_wp2_with fail
  go_ret2
  exact ⟨_, rfl, hv, grown_drewN (grown_refl _ _) _, HR.out⟩
set_option maxRecDepth 100000 in
set_option maxHeartbeats 3200000 in
theorem rnumber3_any (G g : Nat) (a : Option Addr) (l : List UInt8) (cap p : Nat) (w : World) (hR : Rd g a l.length cap p w) (hb : BAt g w a l) (hp : p ≤ l.length) (hS : Sent3 G w) (hG : G ≤ g) :
    Calls Tryd.prog 52 #[.pointer (some ⟨g, 0, none⟩)] w (NumPost g a l.length cap p w (readN (l.drop p))) := by
  have HU : Hid (Upto (l.drop p) 0 0) := Lib.hid ⟨by simp [readN], by simp⟩
  have HN := Lib.hid (fun q w' (h : w.grownBy w' (some g)) (hr : Rd g a l.length cap q w') (hq : q < l.length) => next_yes g a l cap q w' hr (hb.keep h (by simp)) hq)
  have HE := Lib.hid (fun q w' (h : w.grownBy w' (some g)) (hr : Rd g a l.length cap q w') (hq : q = l.length) => next3_end G g a l.length cap w' (hq ▸ hr) (hS.keep h hG))
  have HW := Lib.hid (fun q t v w' (hr : Rd g a l.length cap q w') => wrong_any g a l.length cap q t v w' hr)
  have HS := Lib.hid hS
  have HG := Lib.hid (show Goes g a l.length cap w p w from ⟨grown_refl _ _, hR⟩)
  have hLl := Lib.hid (List.length_drop (l := l) (i := p))
  have HD := Lib.hid (getD_drop l p)
  obtain ⟨L, hL⟩ : ∃ L, L = l.drop p := ⟨_, rfl⟩
  rw [← hL] at HU hLl HD ⊢
  obtain ⟨r, hr⟩ : ∃ r, r = readN L := ⟨_, rfl⟩
  rw [← hr]
  have Hr := Lib.hid hr
  clear hr hL
  clear hS hR hb
  go_enter Tryd.func52, Tryd.ntmps52
  go_wp2_with fail
  go_loopw [4, 5] (fun n i wr => ∃ (k m : Nat), n = .int .u64 m ∧ i = .int .i64 (7 * (k : Int)) ∧ k ≤ 10 ∧ p + k ≤ l.length ∧ Hid (Upto L k m) ∧ Hid (Goes g a l.length cap w (p + k) wr)) (fun _ i _ => 70 - (intOf i).toNat)
  case atStart => exact ⟨0, 0, rfl, rfl, by omega, by omega, HU, HG⟩
  case round =>
    obtain ⟨k, m, rfl, rfl, hk, hpk, U, K⟩ := hrel
    by_cases h10 : 10 ≤ k
    · have HRn : Hid (r = none) := Lib.hid (by obtain rfl : k = 10 := by omega
                                               rw [Hr.out]; exact upto_ten U.out)
      obtain ⟨_, _, ⟨_, t3, q3, c3⟩, _⟩ := HS.out.keep K.out.1 hG
      go_wp2_with fail
      refine (HW.out _ _ _ _ K.out.2).mono ?_
      rintro e w2 ⟨v, n, rfl, hv, rfl⟩
      go_wp2_with fail
      go_ret2
      exact ⟨fun _ _ h => by (rw [HRn.out] at h; cases h), fun _ => ⟨_, _, rfl, hv, grown_drewN K.out.1 _, K.out.2⟩⟩
    · have hlt : 7 * (k : Int) < 64 := by omega
      by_cases hend : l.length ≤ p + k
      · have HRn : Hid (r = none) := Lib.hid (by rw [Hr.out]; exact upto_end U.out (by rw [hLl.out]; omega))
        go_wp2_with fail
        refine (HE.out _ _ K.out.1 K.out.2 (by omega)).mono ?_
        rintro e w1 ⟨v, rfl, hv, hg1⟩
        obtain ⟨x, t9, q9, rfl⟩ := hv
        go_wp2_with fail
        go_ret2
        exact ⟨fun _ _ h => by (rw [HRn.out] at h; cases h), fun _ => ⟨_, _, rfl, ⟨_, _, _, rfl⟩, K.out.trans hg1⟩⟩
      · have hgo : p + k < l.length := by omega
        have hk9 : k ≤ 9 := by omega
        have hkL : Hid (k < L.length) := Lib.hid (by rw [hLl.out]; omega)
        obtain ⟨c, hc⟩ : ∃ c, c = l.getD (p + k) 0 := ⟨_, rfl⟩
        have Hc : Hid (L.getD k 0 = c) := Lib.hid (by rw [HD.out, hc])
        by_cases h9 : k = 9 ∧ 1 < c.toNat % 128
        · have HRn : Hid (r = none) := Lib.hid (by obtain ⟨rfl, h9⟩ := h9
                                                   rw [Hr.out]; exact upto_off U.out hkL.out (by rw [Hc.out]; exact h9))
          obtain ⟨S, e1, e2⟩ : ∃ S : Nat, IntKind.u64.wrap ((c.toNat : Int) % 128 * 2 ^ (7 * k)) = (S : Int) ∧ ((S : Int) / 2 ^ (7 * k) != (c.toNat : Int) % 128) = true := ⟨_, shl_eq _ _, by obtain ⟨rfl, h9⟩ := h9; exact shl_off h9⟩
          clear h9
          go_wp2_with fail
          refine (HN.out _ _ K.out.1 K.out.2 hgo).mono ?_
          rintro e w1 ⟨rfl, hg1⟩
          rw [← hc]
          unfold bV
          have K1 := Lib.hid (K.out.trans hg1)
          clear hc hg1
          obtain ⟨_, _, ⟨_, t3, q3, c3⟩, _⟩ := HS.out.keep K1.out.1 hG
          go_wp2_with fail
          refine (HW.out _ _ _ _ K1.out.2).mono ?_
          rintro e w2 ⟨v, n, rfl, hv, rfl⟩
          go_wp2_with fail
          go_ret2
          exact ⟨fun _ _ h => by (rw [HRn.out] at h; cases h), fun _ => ⟨_, _, rfl, hv, grown_drewN K1.out.1 _, K1.out.2⟩⟩
        · obtain ⟨S, M, HM, e1, e2, e3⟩ := num_letters (c := c.toNat) hk9 U.out.2 h9
          by_cases hc8 : c.toNat < 128
          · have hc8' : (c.toNat : Int) < 128 := by omega
            by_cases hz : 0 < k ∧ c.toNat = 0
            · have HRn : Hid (r = none) := Lib.hid (by rw [Hr.out]; exact upto_loose U.out hkL.out (by rw [Hc.out]; exact hz.2) hz.1)
              obtain ⟨hk0, hc0⟩ := hz
              have hk0' : 0 < 7 * (k : Int) := by omega
              have hc1 : ((c.toNat : Int) == 0) = true := by rw [hc0]; rfl
              clear hc0
              go_wp2_with fail
              refine (HN.out _ _ K.out.1 K.out.2 hgo).mono ?_
              rintro e w1 ⟨rfl, hg1⟩
              rw [← hc]
              unfold bV
              have K1 := Lib.hid (K.out.trans hg1)
              clear hc hg1
              obtain ⟨_, ⟨_, t2, q2, c2⟩, _⟩ := HS.out.keep K1.out.1 hG
              go_wp2_with fail
              refine (HW.out _ _ _ _ K1.out.2).mono ?_
              rintro e w2 ⟨v, n, rfl, hv, rfl⟩
              go_wp2_with fail
              go_ret2
              exact ⟨fun _ _ h => by (rw [HRn.out] at h; cases h), fun _ => ⟨_, _, rfl, hv, grown_drewN K1.out.1 _, K1.out.2⟩⟩
            · have HRs : Hid (r = some (M, k + 1)) := Lib.hid (by rw [Hr.out, HM.out, ← Hc.out]; exact upto_ret U.out hkL.out hk9 (by rw [Hc.out]; exact h9) (by rw [Hc.out]; exact hc8) (by rw [Hc.out]; exact hz))
              by_cases hc0 : c.toNat = 0
              · have hk0 : 7 * (k : Int) ≤ 0 := by omega
                have hc1 : ((c.toNat : Int) == 0) = true := by rw [hc0]; rfl
                clear hc0
                go_wp2_with fail
                refine (HN.out _ _ K.out.1 K.out.2 hgo).mono ?_
                rintro e w1 ⟨rfl, hg1⟩
                rw [← hc]
                unfold bV
                have K1 := Lib.hid (K.out.trans hg1)
                clear hc hg1
                go_wp2_with fail
                go_ret2
                exact ⟨fun _ _ h => by (rw [HRs.out] at h; cases h; exact ⟨rfl, K1.out⟩), fun h => by (rw [HRs.out] at h; cases h)⟩
              · have hc0' : ¬ (c.toNat : Int) = 0 := by omega
                go_wp2_with fail
                refine (HN.out _ _ K.out.1 K.out.2 hgo).mono ?_
                rintro e w1 ⟨rfl, hg1⟩
                rw [← hc]
                unfold bV
                have K1 := Lib.hid (K.out.trans hg1)
                clear hc hg1
                go_wp2_with fail
                go_ret2
                exact ⟨fun _ _ h => by (rw [HRs.out] at h; cases h; exact ⟨rfl, K1.out⟩), fun h => by (rw [HRs.out] at h; cases h)⟩
          · have U2 : Hid (Upto L (k + 1) M) := Lib.hid (by rw [HM.out, ← Hc.out]; exact upto_step U.out hkL.out hk9 (by rw [Hc.out]; exact h9) (by rw [Hc.out]; exact hc8))
            have hc8' : (128 : Int) ≤ c.toNat := by omega
            go_wp2_with fail
            refine (HN.out _ _ K.out.1 K.out.2 hgo).mono ?_
            rintro e w1 ⟨rfl, hg1⟩
            rw [← hc]
            unfold bV
            have K1 := Lib.hid (K.out.trans hg1)
            clear hc hg1
            go_wp2_with fail
            go_roundw
            case rel => exact ⟨k + 1, M, rfl, by go_num, by omega, by omega, U2, K1⟩
            case measure => simp [intOf]; omega
/-- What a call of the reading side asks of the world: the bytes, the program's errors. -/
structure Env3 (G : Nat) (w : World) (a : Option Addr) (l : List UInt8) (cap : Nat) : Prop where
  b : BAt w.heap.size w a l
  c : l.length ≤ cap
  m : cap ≤ 9223372036854775807
  s : Sent3 G w
  e : ErrT G w
  g : G ≤ w.heap.size
theorem Env3.keep {G : Nat} {w w' : World} {a : Option Addr} {l : List UInt8} {cap : Nat} (h : Env3 G w a l cap) (hg : w.grownBy w' none) : Env3 G w' a l cap :=
  ⟨(h.b.keep hg (by simp)).mono hg.size, h.c, h.m, h.s.none hg, h.e.none hg, Nat.le_trans h.g hg.size⟩
set_option maxHeartbeats 1600000 in
theorem readNumber3_any (G : Nat) (a : Option Addr) (l : List UInt8) (cap : Nat) (w : World) (h : Env3 G w a l cap) :
    Calls Tryd.prog 18 #[.slice a l.length cap] w fun e w' => e = .returned (numV (readN l)) ∧ w.grownBy w' none := by
  have HN : ∀ W, w.grownBy W none → Rd w.heap.size a l.length cap 0 W → Calls Tryd.prog 52 #[.pointer (some ⟨w.heap.size, 0, none⟩)] W (NumPost w.heap.size a l.length cap 0 W (readN l)) := fun W hg hr =>
    rnumber3_any G w.heap.size a l cap 0 W hr (h.b.keep hg (by simp)) (Nat.zero_le _) (h.s.none hg) h.g
  cases hr : readN l with
  | some x =>
    obtain ⟨n, k⟩ := x
    rw [hr] at HN
    have HC := Lib.hid (readN_yes a l.length cap k w (fun _ V => V = .int .u64 n) (Lib.hid fun W hg hR => (HN W hg hR).mono fun e w' hp => by
      obtain ⟨rfl, K⟩ := hp.1 n k rfl
      rw [Nat.zero_add] at K
      exact ⟨_, rfl, rfl, K⟩))
    clear h HN hr
    go_enter Tryd.func18, Tryd.ntmps18
    go_wp2_with fail
    refine HC.out.mono ?_
    rintro e w' ⟨_, w2, rfl, rfl, _, hg⟩
    have HG := Lib.hid hg
    clear hg
    go_wp2_with fail
    go_ret3
    exact ⟨rfl, HG.out⟩
  | none =>
    rw [hr] at HN
    have HC := Lib.hid (readN_no G a l.length cap w h.e h.g (Lib.hid fun W hg hR => (HN W hg hR).mono fun e w' hp => by
      obtain ⟨x, q, rfl, hf, K⟩ := hp.2 rfl
      exact ⟨_, _, _, rfl, hf, K⟩))
    clear h HN hr
    go_enter Tryd.func18, Tryd.ntmps18
    go_wp2_with fail
    refine HC.out.mono ?_
    rintro e w' ⟨rfl, hg⟩
    have HG := Lib.hid hg
    clear hg
    go_wp2_with fail
    go_ret3
    exact ⟨rfl, HG.out⟩

end Go.Proofs.YthdaibmminibhaaDoor
