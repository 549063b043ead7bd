/- How high a tree in balance is; the document's Bits. -/
import Derived.Test.YtlmoefiajioeoaaTrH
namespace Go.Proofs.Ytlmoefiajioeoaa
open Go.RowKit

/-- How many bits a number has. -/
def bitsN (n : Nat) : Nat := if n = 0 then 0 else bitsN (n / 2) + 1
theorem bitsN_zero : bitsN 0 = 0 := by unfold bitsN; simp
theorem bitsN_pos {n : Nat} (h : n ≠ 0) : bitsN n = bitsN (n / 2) + 1 := by
  rw [bitsN, if_neg h]
theorem bitsN_mono : ∀ (m n : Nat), n ≤ m → bitsN n ≤ bitsN m := by
  intro m
  induction m using Nat.strongRecOn with
  | _ m ih =>
    intro n h
    by_cases hn : n = 0
    · subst hn; rw [bitsN_zero]; omega
    · have hm : m ≠ 0 := by omega
      rw [bitsN_pos hn, bitsN_pos hm]
      have := ih (m / 2) (by omega) (n / 2) (by omega)
      omega
theorem bitsN_four {n : Nat} (h : n ≠ 0) : bitsN (4 * n) = bitsN n + 2 := by
  rw [bitsN_pos (by omega), show 4 * n / 2 = 2 * n by omega, bitsN_pos (by omega), show 2 * n / 2 = n by omega]
theorem bitsN_le : ∀ n : Nat, bitsN n ≤ n := by
  intro n
  induction n using Nat.strongRecOn with
  | _ n ih =>
    by_cases h : n = 0
    · subst h; rw [bitsN_zero]; omega
    · rw [bitsN_pos h]
      have := ih (n / 2) (by omega)
      omega
/-- The fewest keys of a height, and one. -/
def fewF : Nat → Nat
  | 0 => 1
  | 1 => 2
  | h + 2 => fewF (h + 1) + fewF h
theorem few_grow : ∀ h, fewF h ≤ fewF (h + 1) ∧ fewF (h + 1) ≤ 2 * fewF h ∧ 3 * fewF h ≤ 2 * fewF (h + 1) ∧ 0 < fewF h
  | 0 => by simp [fewF]
  | h + 1 => by
    have ih := few_grow h
    have e : fewF (h + 1 + 1) = fewF (h + 1) + fewF h := rfl
    rw [e]
    omega
theorem few_bits : ∀ h, 2 * h ≤ 3 * bitsN (fewF h)
  | 0 => by omega
  | 1 => by
    have e : bitsN (fewF 1) = 2 := by simp [fewF, bitsN]
    rw [e]; omega
  | 2 => by
    have e : bitsN (fewF 2) = 2 := by simp [fewF, bitsN]
    rw [e]; omega
  | h + 3 => by
    have ih := few_bits h
    have g0 := few_grow h
    have g1 := few_grow (h + 1)
    have e : fewF (h + 3) = fewF (h + 2) + fewF (h + 1) := rfl
    have e2 : fewF (h + 2) = fewF (h + 1) + fewF h := rfl
    have hm := bitsN_mono (fewF (h + 3)) (4 * fewF h) (by omega)
    rw [bitsN_four (by omega)] at hm
    omega
theorem few_le {K R : Type} : ∀ t : Tr K R, Tr.ok t → fewF t.h ≤ t.n + 1
  | .nil, _ => by simp [Tr.h, Tr.n, fewF]
  | .node l k v r, ⟨h1, h2, h3, h4⟩ => by
    have i1 := few_le l h1
    have i2 := few_le r h2
    simp only [Tr.h, Tr.n]
    by_cases hlr : r.h ≤ l.h
    · rw [show max l.h r.h = l.h by omega]
      by_cases e : l.h = r.h
      · have := few_grow l.h
        have e2 : fewF (l.h + 1) ≤ fewF l.h + fewF l.h := by omega
        rw [← e] at i2
        omega
      · obtain ⟨q, hq⟩ : ∃ q, l.h = q + 1 := ⟨l.h - 1, by omega⟩
        have hr : r.h = q := by omega
        rw [hq] at i1 ⊢
        rw [hr] at i2
        show fewF (q + 1) + fewF q ≤ _
        omega
    · rw [show max l.h r.h = r.h by omega]
      obtain ⟨q, hq⟩ : ∃ q, r.h = q + 1 := ⟨r.h - 1, by omega⟩
      have hr : l.h = q := by omega
      rw [hq] at i2 ⊢
      rw [hr] at i1
      show fewF (q + 1) + fewF q ≤ _
      omega
theorem high {K R : Type} (t : Tr K R) (h : Tr.ok t) : 2 * t.h ≤ 3 * bitsN (t.n + 1) := by
  have h1 := few_bits t.h
  have h2 := bitsN_mono _ _ (few_le t h)
  omega
set_option maxHeartbeats 1600000 in
theorem refBits_any (n : Nat) (w : World) (hn : n ≤ 4611686018427387904) :
    Calls Try.prog 40 #[.int .i64 n] w fun e w' => e = .returned (.int .i64 (bitsN n : Nat)) ∧ w = w' := by
  go_enter Try.func40, Try.ntmps40
  go_wp2_with fail
  go_loop [0, 3] (fun s i => ∃ (m k : Nat), s = .int .i64 m ∧ i = .int .i64 k ∧ m ≤ n ∧ Hid (bitsN n = bitsN m + k)) (fun s _ => (intOf s).toNat)
  case atStart => exact ⟨n, 0, rfl, rfl, Nat.le_refl _, Lib.hid rfl⟩
  case round =>
    obtain ⟨m, k, rfl, rfl, hm, E⟩ := hrel
    have hkn : k ≤ n := by have := E.out; have := bitsN_le n; omega
    by_cases h0 : m = 0
    · subst h0
      go_wp2_with fail
      go_ret
      exact ⟨by rw [E.out, bitsN_zero]; simp, rfl⟩
    · have E2 : Hid (bitsN n = bitsN (m / 2) + (k + 1)) := Lib.hid (by rw [E.out, bitsN_pos h0]; omega)
      have hm0 : (0 : Int) < m := by omega
      go_wp2_with fail
      go_round
      case rel => exact ⟨m / 2, k + 1, by go_num, by go_num, by omega, E2⟩
      case measure => simp [intOf]; omega
end Go.Proofs.Ytlmoefiajioeoaa
