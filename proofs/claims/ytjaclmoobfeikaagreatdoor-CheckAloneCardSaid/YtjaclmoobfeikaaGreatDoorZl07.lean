/- Plain facts on texts of values: two good values have one text just if they are the same. Runs with one or two boxed arguments: what a law's boxes hold stays through every call that touches nothing old. Plain words on how a text is read as a value. No program is named. -/
import Derived.Test.YtjaclmoobfeikaaGreatDoorZl06
namespace Go.Proofs.YtjaclmoobfeikaaGreatDoor
open Go.RowKit

/-- What digits say. -/
def dval (l : List UInt8) : Nat := l.foldl (fun n c => 10 * n + (c.toNat - 48)) 0
end Go.Proofs.YtjaclmoobfeikaaGreatDoor
namespace Go.Proofs.YtjaclmoobfeikaaGreatDoor
open Go.RowKit

end Go.Proofs.YtjaclmoobfeikaaGreatDoor
namespace Go.Proofs.YtjaclmoobfeikaaGreatDoor
open Go.RowKit

/-- What a hexadecimal digit says. -/
def hexv (c : UInt8) : Option Nat := if 48 ≤ c.toNat ∧ c.toNat ≤ 57 then some (c.toNat - 48) else if 97 ≤ c.toNat ∧ c.toNat ≤ 102 then some (c.toNat - 87) else none
/-- What stands behind a backslash: the byte, and the rest. -/
def escL : List UInt8 → Option (UInt8 × List UInt8)
  | a :: b :: r => match hexv a, hexv b with
    | some h, some l => if plainB (16 * h + l) then none else some (UInt8.ofNat (16 * h + l), r)
    | _, _ => none
  | _ => none
/-- The first byte of a quoted text, and the rest. -/
def firstL : List UInt8 → Option (UInt8 × List UInt8)
  | [] => none
  | c :: r => if c = 92 then escL r else if c = 39 then (match r with | d :: r' => if d = 39 then some (39, r') else none | [] => none) else if plainB c.toNat then some (c, r) else none

theorem escL_len {l : List UInt8} {c : UInt8} {r : List UInt8} (h : escL l = some (c, r)) : l.length = r.length + 2 := by
  match l with
  | [] => simp [escL] at h
  | [_] => simp [escL] at h
  | a :: b :: t =>
    simp only [escL] at h
    split at h
    · split at h
      · cases h
      · simp only [Option.some.injEq, Prod.mk.injEq] at h
        simp [h.2]
    · cases h
theorem firstL_len {l : List UInt8} {c : UInt8} {r : List UInt8} (h : firstL l = some (c, r)) : r.length < l.length ∧ l.length ≤ r.length + 3 := by
  match l with
  | [] => simp [firstL] at h
  | a :: t =>
    simp only [firstL] at h
    split at h
    · have := escL_len h; simp only [List.length_cons]; omega
    · split at h
      · split at h
        · split at h
          · simp only [Option.some.injEq, Prod.mk.injEq] at h; simp [← h.2]; omega
          · cases h
        · cases h
      · split at h
        · simp only [Option.some.injEq, Prod.mk.injEq] at h; simp [← h.2]
        · cases h
/-- All bytes of a quoted text, behind the first quote, to the end. -/
def readB (l : List UInt8) : Option (List UInt8) :=
  if l = [39] then some [] else
    match _h : firstL l with
    | none => none
    | some (c, r) => (readB r).map (c :: ·)
termination_by l.length
decreasing_by exact (firstL_len (by assumption)).1
theorem readB_end : readB [39] = some [] := by rw [readB, if_pos rfl]
theorem readB_none {l : List UInt8} (h : l ≠ [39]) (hf : firstL l = none) : readB l = none := by
  rw [readB, if_neg h]
  split
  · rfl
  · rename_i c r e; rw [hf] at e; cases e
theorem readB_some {l r : List UInt8} {c : UInt8} (h : l ≠ [39]) (hf : firstL l = some (c, r)) : readB l = (readB r).map (c :: ·) := by
  rw [readB, if_neg h]
  split
  · rename_i e; rw [hf] at e; cases e
  · rename_i c' r' e; rw [hf] at e; cases e; rfl

/-- The digits of the alphabet, looked for: the place, or -1. -/
def hexI (c : UInt8) : Int := match hexv c with | some n => n | none => -1
theorem hex_index (c : UInt8) : Lib.indexByte [48, 49, 50, 51, 52, 53, 54, 55, 56, 57, 97, 98, 99, 100, 101, 102] c = hexI c := by
  have : ∀ i : Fin 256, Lib.indexByte [48, 49, 50, 51, 52, 53, 54, 55, 56, 57, 97, 98, 99, 100, 101, 102] (UInt8.ofNat i.val) = hexI (UInt8.ofNat i.val) := by decide +kernel
  have h := this ⟨c.toNat, c.toNat_lt⟩
  rwa [UInt8.ofNat_toNat] at h
theorem hexv_lt {c : UInt8} {n : Nat} (h : hexv c = some n) : n < 16 := by
  unfold hexv at h
  split at h
  · simp only [Option.some.injEq] at h; omega
  · split at h
    · simp only [Option.some.injEq] at h; omega
    · cases h
theorem hexI_some {c : UInt8} {n : Nat} (h : hexv c = some n) : hexI c = n := by unfold hexI; rw [h]
theorem hexI_none {c : UInt8} (h : hexv c = none) : hexI c = -1 := by unfold hexI; rw [h]
end Go.Proofs.YtjaclmoobfeikaaGreatDoor
