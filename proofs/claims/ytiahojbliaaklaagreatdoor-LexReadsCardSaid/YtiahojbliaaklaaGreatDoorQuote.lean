/- Contracts of the texts of values: how a text is written between quotes. Asked: at most 60 bytes. -/
import Derived.Test.YtiahojbliaaklaaGreatDoorBuild
namespace Go.Proofs.YtiahojbliaaklaaGreatDoor
open Go.RowKit

/-- The digit of a number from 0 to 15. -/
def hexd (n : Nat) : UInt8 := if n < 10 then UInt8.ofNat (48 + n) else UInt8.ofNat (87 + n)
/-- Is a byte written as itself? -/
def plainB (c : Nat) : Bool := decide (32 ≤ c) && decide (c ≤ 126) && (c != 92)
/-- How one byte is written. -/
def q1 (c : UInt8) : List UInt8 := if c = 39 then [39, 39] else if plainB c.toNat then [c] else [92, hexd (c.toNat / 16), hexd (c.toNat % 16)]
def qs (l : List UInt8) : List UInt8 := l.flatMap q1

set_option maxHeartbeats 400000 in
theorem readable_any (c : Nat) (w : World) (h : c < 256) :
    Calls Tryz.prog 57 #[.int .u8 c] w fun e w' => e = .returned (.bool (plainB c)) ∧ w = w' := by
  go_enter Tryz.func57, Tryz.ntmps57
  go_wp2
  all_goals (go_ret; refine ⟨ret_bool ?_, rfl⟩; unfold plainB; rw [Bool.eq_iff_iff]; simp; omega)

theorem q1_len (c : UInt8) : (q1 c).length ≤ 3 := by
  unfold q1
  split
  · simp
  · split <;> simp
theorem qs_len (l : List UInt8) : (qs l).length ≤ 3 * l.length := by
  induction l with
  | nil => simp [qs]
  | cons c l ih =>
    have := q1_len c
    simp only [qs, List.flatMap_cons, List.length_append, List.length_cons] at ih ⊢
    omega
theorem take_snoc (s : ByteArray) (k : Nat) (h : k < s.size) : s.data.toList.take (k + 1) = s.data.toList.take k ++ [s[k]] := by
  rw [List.take_succ_eq_append_getElem (by simpa using h)]; rfl
theorem qs_snoc (s : ByteArray) (k : Nat) (h : k < s.size) : qs (s.data.toList.take (k + 1)) = qs (s.data.toList.take k) ++ q1 s[k] := by
  rw [take_snoc s k h]; simp [qs]
theorem qs_take_len (s : ByteArray) (k : Nat) (hk : k ≤ 60) : (39 :: qs (s.data.toList.take k)).length ≤ 200 := by
  have h1 := qs_len (s.data.toList.take k)
  have h2 : (s.data.toList.take k).length ≤ k := List.length_take_le _ _
  simp only [List.length_cons]
  omega
theorem byte_lt (u : UInt8) : u.toNat < 256 := u.toNat_lt

theorem ret_string {a b : List UInt8} (h : a = b) : Ending.returned (.string ⟨a.toArray⟩) = .returned (.string ⟨b.toArray⟩) := by rw [h]
theorem dig_at (n : Nat) (h : n < 16) : (⟨#[48, 49, 50, 51, 52, 53, 54, 55, 56, 57, 97, 98, 99, 100, 101, 102]⟩ : ByteArray)[n]'h = hexd n := by
  have : ∀ i : Fin 16, (⟨#[48, 49, 50, 51, 52, 53, 54, 55, 56, 57, 97, 98, 99, 100, 101, 102]⟩ : ByteArray)[i.val]'i.isLt = hexd i.val := by decide +kernel
  exact this ⟨n, h⟩
theorem ne_quote {u : UInt8} (hu : ((u.toNat : Int) == 39) = false) : u ≠ 39 := by
  rintro rfl
  exact absurd hu (by decide)
end Go.Proofs.YtiahojbliaaklaaGreatDoor
