/- The contract of the reference's Read: plain facts, its digit, and the words. -/
import Derived.Test.YtiahojbliaaklaaGreatDoorRefAll
namespace Go.Proofs.YtiahojbliaaklaaGreatDoor
open Go.RowKit

/-- A hexadecimal digit, or 16. -/
def hexN (c : UInt8) : Nat := match hexv c with | some n => n | none => 16
theorem hexN_some {c : UInt8} {n : Nat} (h : hexv c = some n) : hexN c = n := by unfold hexN; rw [h]
theorem hexN_none {c : UInt8} (h : hexv c = none) : hexN c = 16 := by unfold hexN; rw [h]
theorem hexN_cases (c : UInt8) : (hexN c : Int) = if 48 ≤ (c.toNat : Int) ∧ (c.toNat : Int) ≤ 57 then (c.toNat : Int) - 48 else if 97 ≤ (c.toNat : Int) ∧ (c.toNat : Int) ≤ 102 then (c.toNat : Int) - 97 + 10 else 16 := by
  have : ∀ i : Fin 256, (hexN (UInt8.ofNat i.val) : Int) = if 48 ≤ ((UInt8.ofNat i.val).toNat : Int) ∧ ((UInt8.ofNat i.val).toNat : Int) ≤ 57 then ((UInt8.ofNat i.val).toNat : Int) - 48 else if 97 ≤ ((UInt8.ofNat i.val).toNat : Int) ∧ ((UInt8.ofNat i.val).toNat : Int) ≤ 102 then ((UInt8.ofNat i.val).toNat : Int) - 97 + 10 else 16 := by decide +kernel
  have h := this ⟨c.toNat, c.toNat_lt⟩
  rwa [UInt8.ofNat_toNat] at h

theorem refValue_any (c : UInt8) (w : World) :
    Calls Tryz.prog 32 #[.int .u8 c.toNat] w fun e w' => e = .returned (.int .u8 (hexN c)) ∧ w = w' := by
  have H := Lib.hid (hexN_cases c)
  generalize hexN c = v at *
  have hb := byte_lt c
  generalize c.toNat = n at *
  go_enter Tryz.func32, Tryz.ntmps32
  go_wp2_with fail
  all_goals (go_ret; exact ⟨ret_int (by rw [H.out]; split <;> (try split) <;> omega), rfl⟩)

set_option maxRecDepth 100000 in
set_option maxHeartbeats 400000 in
theorem refRead_word (s : ByteArray) (w : World) (h : s.data.toList = [78, 85, 76, 76] ∨ s.data.toList = [70, 65, 76, 83, 69] ∨ s.data.toList = [84, 82, 85, 69]) :
    Calls Tryz.prog 22 #[.string s] w fun e w' => e = .returned (readV s.data.toList) ∧ Below w.heap.size w w' := by
  rcases h with h | h | h
  · have hr : readV s.data.toList = .tuple #[vz, .int .i64 0] := by rw [h]; rfl
    rw [hr]
    have h1 : (s.toList == [78, 85, 76, 76]) = true := bytes_is h
    clear hr h
    go_enter Tryz.func22, Tryz.ntmps22
    go_wp2_with fail
    exact bodyPost_ret (v := .tuple #[vz, .int .i64 0]) (by simp [results, Tryz.results22, go_sem]) rfl ⟨rfl, by first | exact (Below.refl _ _).alloc (Nat.le_refl _) _ | exact ((Below.refl _ _).alloc (Nat.le_refl _) _).alloc (by simp) _ | exact below_store3 ((Below.refl _ _).alloc (Nat.le_refl _) _) (Nat.le_refl _) _ _ _ | exact below_store3 (((Below.refl _ _).alloc (Nat.le_refl _) _).alloc (by simp) _) (Nat.le_refl _) _ _ _⟩
  · have hr : readV s.data.toList = .tuple #[.agg #[.int .i64 1, .int .i64 0, .string ⟨#[]⟩], .int .i64 0] := by rw [h]; rfl
    rw [hr]
    have h1 : (s.toList == [78, 85, 76, 76]) = false := bytes_not (by rw [h]; decide)
    have h2 : (s.toList == [70, 65, 76, 83, 69]) = true := bytes_is h
    have h3 : (s.toList == [84, 82, 85, 69]) = false := bytes_not (by rw [h]; decide)
    clear hr h
    go_enter Tryz.func22, Tryz.ntmps22
    go_wp2_with fail
    exact bodyPost_ret (v := .tuple #[.agg #[.int .i64 1, .int .i64 0, .string ⟨#[]⟩], .int .i64 0]) (by simp [results, Tryz.results22, go_sem]) rfl ⟨rfl, by first | exact (Below.refl _ _).alloc (Nat.le_refl _) _ | exact ((Below.refl _ _).alloc (Nat.le_refl _) _).alloc (by simp) _ | exact below_store3 ((Below.refl _ _).alloc (Nat.le_refl _) _) (Nat.le_refl _) _ _ _ | exact below_store3 (((Below.refl _ _).alloc (Nat.le_refl _) _).alloc (by simp) _) (Nat.le_refl _) _ _ _⟩
  · have hr : readV s.data.toList = .tuple #[.agg #[.int .i64 1, .int .i64 1, .string ⟨#[]⟩], .int .i64 0] := by rw [h]; rfl
    rw [hr]
    have h1 : (s.toList == [78, 85, 76, 76]) = false := bytes_not (by rw [h]; decide)
    have h2 : (s.toList == [70, 65, 76, 83, 69]) = false := bytes_not (by rw [h]; decide)
    have h3 : (s.toList == [84, 82, 85, 69]) = true := bytes_is h
    clear hr h
    go_enter Tryz.func22, Tryz.ntmps22
    go_wp2_with fail
    exact bodyPost_ret (v := .tuple #[.agg #[.int .i64 1, .int .i64 1, .string ⟨#[]⟩], .int .i64 0]) (by simp [results, Tryz.results22, go_sem]) rfl ⟨rfl, by first | exact (Below.refl _ _).alloc (Nat.le_refl _) _ | exact ((Below.refl _ _).alloc (Nat.le_refl _) _).alloc (by simp) _ | exact below_store3 ((Below.refl _ _).alloc (Nat.le_refl _) _) (Nat.le_refl _) _ _ _ | exact below_store3 (((Below.refl _ _).alloc (Nat.le_refl _) _).alloc (by simp) _) (Nat.le_refl _) _ _ _⟩

/-- A text between two quotes. -/
theorem quoted_form {l : List UInt8} (h2 : 2 ≤ l.length) : ∃ a m z, l = a :: (m ++ [z]) := by
  cases l with
  | nil => simp at h2
  | cons a t =>
    rcases List.eq_nil_or_concat t with rfl | ⟨m, z, rfl⟩
    · simp at h2
    · exact ⟨a, m, z, by simp⟩
end Go.Proofs.YtiahojbliaaklaaGreatDoor
