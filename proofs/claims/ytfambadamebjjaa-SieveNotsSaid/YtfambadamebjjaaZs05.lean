import Derived.Test.YtfambadamebjjaaZs04
import Derived.Deep.DeepCutAuto
import Derived.Lib.Hide
import Derived.BigQuiet
import Derived.Deep.RegionHeld3
set_option linter.unusedSimpArgs false
set_option linter.unusedVariables false
namespace Go.Proofs.Ytfambadamebjjaa
open Go.RowKit

theorem q1_cases (c : UInt8) : (c = 39 ∧ q1 c = [39, 39]) ∨ (c ≠ 39 ∧ c ≠ 92 ∧ plainB c.toNat = true ∧ q1 c = [c]) ∨ (c ≠ 39 ∧ plainB c.toNat = false ∧ q1 c = [92, hexd (c.toNat / 16), hexd (c.toNat % 16)]) := by
 unfold q1
 by_cases h : c = 39
 ·exact .inl ⟨h, by rw [if_pos h]⟩
 ·by_cases hp : plainB c.toNat = true
  ·refine .inr (.inl ⟨h, ?_, hp, by rw [if_neg h, if_pos hp]⟩)
   rintro rfl
   exact absurd hp (by decide)
  ·exact .inr (.inr ⟨h, by simpa using hp, by rw [if_neg h, if_neg hp]⟩)
def dval (l : List UInt8) : Nat := l.foldl (fun n c => 10 * n + (c.toNat - 48)) 0
theorem dval_snoc (l : List UInt8) (c : UInt8) : dval (l ++ [c]) = 10 * dval l + (c.toNat - 48) := by simp [dval]
end Go.Proofs.Ytfambadamebjjaa
namespace Go.Proofs.Ytfambadamebjjaa
open Go.RowKit

structure Vl where
 k : Int
 n : Int
 s : ByteArray
instance : Inhabited Vl := ⟨⟨0, 0, ⟨#[]⟩⟩⟩
def Vl.good (x : Vl) : Bool := goodB x.k x.n x.s
def Vl.ord (x y : Vl) : Int := ordC x.k x.n x.s y.k y.n y.s

def RowAt (w : World) (a : Option Addr) (l : List Vl) : Prop :=
 l.length ≤ 9223372036854775807 ∧ (∀ x ∈ l, x.s.size ≤ maxLen) ∧ (l = [] ∨ ∃ b off, a = some ⟨b, off, none⟩ ∧ b < w.heap.size ∧ ∀ i, i < l.length → w.cell? ⟨b, off + i * 3, none⟩ = some (.int .i64 (l.getD i default).k) ∧ w.cell? ⟨b, off + i * 3 + 1, none⟩ = some (.int .i64 (l.getD i default).n) ∧ w.cell? ⟨b, off + i * 3 + 2, none⟩ = some (.string (l.getD i default).s))

theorem RowAt.keep {w w' : World} {a : Option Addr} {l : List Vl} (h : RowAt w a l) (hb : Below w.heap.size w w') : RowAt w' a l := by
 obtain ⟨h1, h2, h3⟩ := h
 refine ⟨h1, h2, ?_⟩
 rcases h3 with h3 | ⟨b, off, e, hlt, hc⟩
 ·exact .inl h3
 ·have := hb.size
  exact .inr ⟨b, off, e, by omega, fun i hi => ⟨(hb.cell (p := ⟨b, _, none⟩) hlt).trans (hc i hi).1, (hb.cell (p := ⟨b, _, none⟩) hlt).trans (hc i hi).2.1, (hb.cell (p := ⟨b, _, none⟩) hlt).trans (hc i hi).2.2⟩⟩
theorem RowAt.at {w : World} {a : Option Addr} {l : List Vl} (h : RowAt w a l) {i : Nat} (hi : i < l.length) : ∃ b off, a = some ⟨b, off, none⟩ ∧ b < w.heap.size ∧ w.cell? ⟨b, off + i * 3, none⟩ = some (.int .i64 (l.getD i default).k) ∧ w.cell? ⟨b, off + i * 3 + 1, none⟩ = some (.int .i64 (l.getD i default).n) ∧ w.cell? ⟨b, off + i * 3 + 2, none⟩ = some (.string (l.getD i default).s) := by
 rcases h.2.2 with h3 | ⟨b, off, e, hlt, hc⟩
 ·rw [h3] at hi; simp at hi
 ·exact ⟨b, off, e, hlt, hc i hi⟩

end Go.Proofs.Ytfambadamebjjaa
namespace Go.Proofs.Ytfambadamebjjaa
open Go.RowKit

def hexv (c : UInt8) : Option Nat := if 48 ≤ c.toNat ∧ c.toNat ≤ 57 then some (c.toNat - 48) else if 97 ≤ c.toNat ∧ c.toNat ≤ 102 then some (c.toNat - 87) else none
def escL : List UInt8 → Option (UInt8 × List UInt8)
 | a :: b :: r => match hexv a, hexv b with
  | some h, some l => if plainB (16 * h + l) then none else some (UInt8.ofNat (16 * h + l), r)
  | _, _ => none
 | _ => none
def firstL : List UInt8 → Option (UInt8 × List UInt8)
 | [] => none
 | c :: r => if c = 92 then escL r else if c = 39 then (match r with | d :: r' => if d = 39 then some (39, r') else none | [] => none) else if plainB c.toNat then some (c, r) else none

theorem escL_len {l : List UInt8} {c : UInt8} {r : List UInt8} (h : escL l = some (c, r)) : l.length = r.length + 2 := by
 match l with
 | [] => simp [escL] at h
 | [_] => simp [escL] at h
 | a :: b :: t =>
  simp only [escL] at h
  split at h
  ·split at h
   ·cases h
   ·simp only [Option.some.injEq, Prod.mk.injEq] at h
    simp [h.2]
  ·cases h
theorem firstL_len {l : List UInt8} {c : UInt8} {r : List UInt8} (h : firstL l = some (c, r)) : r.length < l.length ∧ l.length ≤ r.length + 3 := by
 match l with
 | [] => simp [firstL] at h
 | a :: t =>
  simp only [firstL] at h
  split at h
  ·have := escL_len h; simp only [List.length_cons]; omega
  ·split at h
   ·split at h
    ·split at h
     ·simp only [Option.some.injEq, Prod.mk.injEq] at h; simp [← h.2]; omega
     ·cases h
    ·cases h
   ·split at h
    ·simp only [Option.some.injEq, Prod.mk.injEq] at h; simp [← h.2]
    ·cases h
def readB (l : List UInt8) : Option (List UInt8) :=
 if l = [39] then some [] else
  match _h : firstL l with
  | none => none
  | some (c, r) => (readB r).map (c :: ·)
termination_by l.length
decreasing_by exact (firstL_len (by assumption)).1
theorem readB_end : readB [39] = some [] := by rw [readB, if_pos rfl]
theorem readB_none {l : List UInt8} (h : l ≠ [39]) (hf : firstL l = none) : readB l = none := by
 rw [readB, if_neg h]
 split
 ·rfl
 ·rename_i c r e; rw [hf] at e; cases e
theorem readB_some {l r : List UInt8} {c : UInt8} (h : l ≠ [39]) (hf : firstL l = some (c, r)) : readB l = (readB r).map (c :: ·) := by
 rw [readB, if_neg h]
 split
 ·rename_i e; rw [hf] at e; cases e
 ·rename_i c' r' e; rw [hf] at e; cases e; rfl

theorem hexv_lt {c : UInt8} {n : Nat} (h : hexv c = some n) : n < 16 := by
 unfold hexv at h
 split at h
 ·simp only [Option.some.injEq] at h; omega
 ·split at h
  ·simp only [Option.some.injEq] at h; omega
  ·cases h
end Go.Proofs.Ytfambadamebjjaa
namespace Go.Proofs.Ytfambadamebjjaa
open Go.RowKit

theorem cmpV_any (x y : Vl) (w : World) :
  Calls Try.prog 89 #[.agg #[.int .i64 x.k, .int .i64 x.n, .string x.s], .agg #[.int .i64 y.k, .int .i64 y.n, .string y.s]] w fun e w' => e = .returned (.int .i64 (x.ord y)) ∧ Below w.heap.size w w' := compare_any x.k x.n x.s y.k y.n y.s w

theorem good_at {l : List Vl} (h : l.all Vl.good = true) {k : Nat} (hk : k < l.length) : (l.getD k default).good = true := by
 rw [List.all_eq_true] at h
 exact h _ (by simp [List.getD, hk])

end Go.Proofs.Ytfambadamebjjaa
