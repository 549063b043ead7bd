/- The journal's drop. -/
import Derived.Test.YtlmoefiajioeoaaJrA
namespace Go.Proofs.Ytlmoefiajioeoaa
open Go.RowKit

/-- Behind one commit that is gone. -/
theorem Kp.next {B J : Nat} {w : World} {g off cap m : Nat} {low : Int} (h : Kp B J w (some ⟨g, off, none⟩) (cap + 1) low (m + 1)) (W : World) (cs : Array Value) (hg : w.heap[g]? = some (.cells cs 57 (0, 0))) (x y : Value) (hW : W.heap[g]? = some (.cells ((cs.setIfInBounds off x).setIfInBounds (off + 1) y) 57 (0, 0))) (a' : Option Addr) (ha : 0 < cap → a' = some ⟨g, off + 2, none⟩) : Kp B J W a' cap (low + 1) m := by
  refine ⟨by have := h.1; omega, by have := h.2.1; omega, ?_⟩
  rcases h.2.2 with h0 | ⟨g', off', cs', e, hb, hj, hh, hs, hc⟩
  · omega
  · cases e
    rw [hh] at hg
    cases hg
    rcases Nat.eq_zero_or_pos cap with h0 | h0
    · exact .inl h0
    · refine .inr ⟨g, off + 2, _, ha h0, hb, hj, hW, by simp; omega, fun i hi => ?_⟩
      have := hc (i + 1) (by omega)
      rw [Array.getElem?_setIfInBounds_ne (by omega), Array.getElem?_setIfInBounds_ne (by omega), Array.getElem?_setIfInBounds_ne (by omega), Array.getElem?_setIfInBounds_ne (by omega)]
      rw [show off + 2 + i * 2 = off + (i + 1) * 2 by omega, show low + 1 + 1 + (i : Int) = low + 1 + ((i + 1 : Nat) : Int) by push_cast; omega]
      exact this
set_option maxHeartbeats 1600000 in
theorem drop_any (B J : Nat) (w : World) (room en : Int) (n : Nat) (d : Int) (h : JAt B J w room en n) (hd : d ≤ n) (hn : n ≤ 1000000) :
    Calls Try.prog 47 #[.pointer (some ⟨J, 0, none⟩), .int .i64 d] w fun e w' => e = .returned (.tuple #[]) ∧ JAt B J w' room en (n - d.toNat) ∧ Below B w w' := by
  have H := Lib.hid h
  have hJ := h.1
  clear h
  go_enter Try.func47, Try.ntmps47
  go_wp2_with fail
  go_loopw [5] (fun i wr => ∃ k : Nat, i = .int .i64 k ∧ k ≤ d.toNat ∧ Hid (JAt B J wr room en (n - k) ∧ Below B w wr)) (fun i _ => d.toNat - (intOf i).toNat)
  case atStart => exact ⟨0, rfl, by omega, Lib.hid ⟨H.out, Below.refl _ _⟩⟩
  case round =>
    obtain ⟨k, rfl, hk, I⟩ := hrel
    by_cases hlt : (k : Int) < d
    · obtain ⟨⟨_, a, cap, hj, hp⟩, hb⟩ := I.out
      obtain ⟨m, hm⟩ : ∃ m, m + 1 = n - k := ⟨n - k - 1, by omega⟩
      rw [← hm] at hj hp
      have hen : en - ((m + 1 : Nat) : Int) + 1 = en - ((n - (k + 1) : Nat) : Int) := by omega
      have hm2 : n - (k + 1) = m := by omega
      obtain ⟨cap', rfl⟩ : ∃ c, cap = c + 1 := ⟨cap - 1, by have := hp.1; omega⟩
      obtain ⟨g, off, rfl, hgB, hgJ, hgl, hfz, hcs, hcell⟩ := hp.at (by omega)
      obtain ⟨c0, c1, c2, f0, f1, f2⟩ := hj.cells
      have d0 := hcell 0 (by omega)
      have z0 := hfz off
      have z1 := hfz (off + 1)
      simp only [Nat.zero_mul, Nat.add_zero] at d0
      obtain ⟨d0, d1⟩ := d0
      have D := Lib.hid (And.intro hj (And.intro hp (And.intro hb (And.intro hen hm2))))
      have hJl := hj.lt
      have i1 : (0 : Int) < ((m + 1 : Nat) : Int) := by omega
      clear hj hp hb hen hm2 hcell hcs hfz I hm
      go_wp2_with fail
      go_roundw
      case rel =>
        obtain ⟨hj, hp, hb, hen, hm2⟩ := D.out
        obtain ⟨cs, hh⟩ : ∃ cs, wr.heap[g]? = some (.cells cs 57 (0, 0)) := by
          rcases hp.2.2 with h0 | ⟨_, _, cs, e, _, _, hh, _⟩
          · omega
          · cases e; exact ⟨cs, hh⟩
        refine ⟨k + 1, by go_num, by omega, Lib.hid ⟨⟨hJ, (if cap' = 0 then some ⟨g, off, none⟩ else some ⟨g, off + 2, none⟩), cap', ?_, ?_⟩, ((hb.setCell (p := ⟨g, off, none⟩) hgB _).setCell (p := ⟨g, off + 1, none⟩) hgB _).setCell (p := ⟨J, 2, none⟩) hJ _⟩⟩
        · rw [hm2]
          refine Jn.setKept (n := m + 1) (cap := cap' + 1) (a := some ⟨g, off, none⟩) ?_
          show (World.setCell _ _ _).heap[J]? = _
          rw [Below.heap_setCell _ _ _ _ (fun e => hgJ e.symm), Below.heap_setCell _ _ _ _ (fun e => hgJ e.symm)]
          exact hj
        · rw [hm2] at hen ⊢
          rw [← hen]
          exact hp.next _ cs hh _ _ (by rw [Below.heap_setCell _ _ _ _ hgJ]; exact Kp.frozenless _ _ (Kp.frozenless _ _ hh)) _ (fun hc => if_neg (by omega))
      case measure => simp [intOf]; omega
    · obtain rfl : k = d.toNat := by omega
      go_wp2_with fail
      go_end0
      exact ⟨rfl, I.out.1, I.out.2⟩
end Go.Proofs.Ytlmoefiajioeoaa
