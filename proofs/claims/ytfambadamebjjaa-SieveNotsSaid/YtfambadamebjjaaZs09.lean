import Derived.Test.YtfambadamebjjaaZs08
import Derived.Deep.QuietTactic
import Derived.BigQuiet
import Derived.IntWalk
set_option linter.unusedSimpArgs false
set_option linter.unusedVariables false
namespace Go.Proofs.Ytfambadamebjjaa
open Go.RowKit

theorem hexv_back {a : UInt8} {h : Nat} (e : hexv a = some h) : hexd h = a := by
 have : ∀ i : Fin 256, ∀ j : Fin 16, hexv (UInt8.ofNat i.val) = some j.val → hexd j.val = UInt8.ofNat i.val := by decide +kernel
 have h2 := this ⟨a.toNat, a.toNat_lt⟩ ⟨h, hexv_lt e⟩
 simp only [UInt8.ofNat_toNat] at h2
 exact h2 e
theorem plain39 : plainB 39 = true := by decide
theorem q1_of_esc {l r : List UInt8} {c : UInt8} (h : escL l = some (c, r)) : 92 :: l = q1 c ++ r := by
 match l with
 | [] => simp [escL] at h
 | [_] => simp [escL] at h
 | a :: b :: t =>
  simp only [escL] at h
  cases ha : hexv a with
  | none => rw [ha] at h; cases h
  | some x =>
   cases hb : hexv b with
   | none => rw [ha, hb] at h; cases h
   | some y =>
    rw [ha, hb] at h
    simp only at h
    by_cases hp : plainB (16 * x + y) = true
    ·rw [if_pos hp] at h; cases h
    ·rw [if_neg hp] at h
     simp only [Option.some.injEq, Prod.mk.injEq] at h
     obtain ⟨rfl, rfl⟩ := h
     have hx := hexv_lt ha
     have hy := hexv_lt hb
     have hn : (UInt8.ofNat (16 * x + y)).toNat = 16 * x + y := by rw [UInt8.toNat_ofNat']; omega
     have h39 : UInt8.ofNat (16 * x + y) ≠ 39 := fun e => hp (by rw [← hn, e]; exact plain39)
     unfold q1
     rw [if_neg h39, hn, if_neg hp, show (16 * x + y) / 16 = x by omega, show (16 * x + y) % 16 = y by omega, hexv_back ha, hexv_back hb]
     rfl
theorem q1_of_first {l r : List UInt8} {c : UInt8} (h : firstL l = some (c, r)) : l = q1 c ++ r := by
 match l with
 | [] => simp [firstL] at h
 | a :: t =>
  simp only [firstL] at h
  by_cases h92 : a = 92
  ·rw [if_pos h92] at h
   subst h92
   exact q1_of_esc h
  ·rw [if_neg h92] at h
   by_cases h39 : a = 39
   ·rw [if_pos h39] at h
    subst h39
    match t with
    | [] => cases h
    | d :: t' =>
     simp only at h
     by_cases hd : d = 39
     ·rw [if_pos hd] at h
      simp only [Option.some.injEq, Prod.mk.injEq] at h
      obtain ⟨rfl, rfl⟩ := h
      subst hd
      rfl
     ·rw [if_neg hd] at h; cases h
   ·rw [if_neg h39] at h
    by_cases hp : plainB a.toNat = true
    ·rw [if_pos hp] at h
     simp only [Option.some.injEq, Prod.mk.injEq] at h
     obtain ⟨rfl, rfl⟩ := h
     unfold q1
     rw [if_neg h39, if_pos hp]
     rfl
    ·rw [if_neg hp] at h; cases h
theorem qs_of_readB : ∀ (n : Nat) (l t : List UInt8), l.length ≤ n → readB l = some t → l = qs t ++ [39]
 | 0, l, t, hn, h => by
  have : l = [] := List.eq_nil_of_length_eq_zero (by omega)
  subst this
  rw [readB_none (by simp) rfl] at h
  cases h
 | n + 1, l, t, hn, h => by
  by_cases h39 : l = [39]
  ·subst h39
   rw [readB_end] at h
   cases h
   rfl
  ·cases hf : firstL l with
   | none => rw [readB_none h39 hf] at h; cases h
   | some x =>
    obtain ⟨c, r⟩ := x
    rw [readB_some h39 hf] at h
    cases hr : readB r with
    | none => rw [hr] at h; cases h
    | some t' =>
     rw [hr] at h
     simp only [Option.map_some, Option.some.injEq] at h
     subst h
     have hl := (firstL_len hf).1
     rw [q1_of_first hf, qs_of_readB n r t' (by omega) hr]
     simp [qs]

end Go.Proofs.Ytfambadamebjjaa
namespace Go.Proofs.Ytfambadamebjjaa
open Go.RowKit

theorem grown_refl6 (w : World) (row : Option Nat) : w.grownBy w row := ⟨rfl, rfl, rfl, Nat.le_refl _, fun _ _ _ => rfl⟩
theorem grown_drewN6 {w w' : World} {row : Option Nat} (h : w.grownBy w' row) (n : Nat) : w.grownBy (w'.drewN n) row := ⟨h.os, h.tape, h.output, h.size, h.block⟩
end Go.Proofs.Ytfambadamebjjaa
namespace Go.Proofs.Ytfambadamebjjaa
open Go.RowKit

end Go.Proofs.Ytfambadamebjjaa
namespace Go.Proofs.Ytfambadamebjjaa
open Go.RowKit

theorem runL_drop (f : UInt8 → Bool) : ∀ (l : List UInt8) (k : Nat), (∀ i, i < k → f (l.getD i 0) = true) → k ≤ l.length → runL f l = k + runL f (l.drop k)
 | l, 0, _, _ => by simp
 | [], k + 1, _, h => by simp at h
 | c :: r, k + 1, h, hk => by
  have h0 := h 0 (by omega)
  simp at h0
  have := runL_drop f r k (fun i hi => by have := h (i + 1) (by omega); simpa using this) (by simpa using hk)
  simp [runL, h0, this]
  omega
end Go.Proofs.Ytfambadamebjjaa
