/- tree's put. A text between quotes: the contract of lex's quoted. The contract of schema's malformed at a table that is well formed. -/
import Derived.Test.YtjaclmoobfeikaaGreatDoorZl12
import Derived.Deep.DeepCutAuto
import Derived.Test.YtjaclmoobfeikaaGreatDoorZl13
namespace Go.Proofs.YtjaclmoobfeikaaGreatDoor
open Go.RowKit

abbrev ordR := rowsOrd
end Go.Proofs.YtjaclmoobfeikaaGreatDoor
namespace Go.Proofs.YtjaclmoobfeikaaGreatDoor
open Go.RowKit

theorem qN_nil : qN [] = 0 := rfl
theorem qN_ne (c : UInt8) (r : List UInt8) (h : c ≠ 39) : qN (c :: r) = 1 + qN r := by
  unfold qN
  cases r with
  | nil => simp [qC, h]
  | cons d t =>
    rw [qC, if_neg h]
    cases qC (d :: t) with
    | none => simp; omega
    | some k => simp; omega
theorem qN_two (r : List UInt8) : qN (39 :: 39 :: r) = 2 + qN r := by
  unfold qN
  rw [qC, if_pos rfl, if_pos rfl]
  cases qC r with
  | none => simp; omega
  | some k => simp; omega
theorem qN_end (r : List UInt8) (h : Lib.hasPrefix (39 :: r) [39, 39] = false) : qN (39 :: r) = 1 := by
  unfold qN
  cases r with
  | nil => simp [qC]
  | cons d t =>
    have hd : d ≠ 39 := fun e => by subst e; simp [Lib.hasPrefix] at h
    rw [qC, if_pos rfl, if_neg hd]; rfl
theorem drop_at (s : ByteArray) (k : Nat) (h : k < s.size) : s.data.toList.drop k = s[k] :: s.data.toList.drop (k + 1) := by
  rw [List.drop_eq_getElem_cons (by rw [Array.length_toList]; exact h)]
  rfl
theorem pre_two {l : List UInt8} (h : Lib.hasPrefix l [39, 39] = true) : ∃ r, l = 39 :: 39 :: r := by
  match l, h with
  | [], h => simp [Lib.hasPrefix] at h
  | [a], h => simp [Lib.hasPrefix] at h
  | a :: b :: r, h =>
    simp [Lib.hasPrefix, List.isPrefixOf] at h
    obtain ⟨rfl, rfl⟩ := h
    exact ⟨r, rfl⟩
theorem drop_more {l : List UInt8} {k : Nat} {a b : UInt8} {r : List UInt8} (h : l.drop k = a :: b :: r) : l.drop (k + 2) = r ∧ k + 2 ≤ l.length := by
  constructor
  · have : l.drop (k + 2) = (l.drop k).drop 2 := by rw [List.drop_drop]
    rw [this, h]; rfl
  · have := congrArg List.length h
    rw [List.length_drop] at this
    simp at this; omega
theorem byte_ne {c : UInt8} {n : Nat} (h : c ≠ UInt8.ofNat n) (hn : n < 256) : ¬ (c.toNat : Int) = n := fun e => h (UInt8.toNat_inj.1 (by rw [UInt8.toNat_ofNat']; omega))
set_option maxHeartbeats 800000 in
theorem quoted_any (s : ByteArray) (w : World) (h1 : 1 ≤ s.size) (hs : s.size ≤ 1510) :
    Calls Tryz.prog 127 #[.string s] w fun e w' => e = .returned (.int .i64 ((1 + qN (s.data.toList.drop 1) : Nat) : Int)) ∧ w = w' := by
  have HE : Hid (1 + qN (s.data.toList.drop 1) = 1 + qN (s.data.toList.drop 1)) := Lib.hid rfl
  generalize hres : 1 + qN (s.data.toList.drop 1) = res at *
  have HR := Lib.hid hres
  clear hres HE
  go_enter Tryz.func127, Tryz.ntmps127
  go_wp2_with fail
  go_loop [3] (fun i => ∃ (k : Nat), i = .int .i64 k ∧ 1 ≤ k ∧ k ≤ s.size ∧ Hid (res = k + qN (s.data.toList.drop k))) (fun i => s.size - (intOf i).toNat)
  case atStart => exact ⟨1, rfl, by omega, h1, Lib.hid HR.out.symm⟩
  case round =>
    obtain ⟨k, rfl, hk1, hk, U⟩ := hrel
    by_cases hlt : k < s.size
    · have i0 : (0 : Int) ≤ k := by omega
      have i1 : (k : Int) < s.size := by omega
      have hd := drop_at s k hlt
      by_cases h39 : s[k] = 39
      · have hc : (s[k].toNat : Int) = 39 := by rw [h39]; decide
        have tb : ((s[k].toNat : Int) != 39) = false := by rw [bne_eq_false_iff_eq]; exact hc
        rw [h39] at hd
        have HP := Lib.hid (prefix_any (s.extract k s.size) ⟨#[39, 39]⟩ w)
        cases hp : Lib.hasPrefix (s.data.toList.drop k) [39, 39]
        · have hq : res = k + 1 := by rw [U.out, hd, qN_end _ (by rw [← hd]; exact hp)]
          have HP2 : Hid (Calls Tryz.prog 118 #[.string (s.extract k s.size), .string ⟨#[39, 39]⟩] w fun e w' => e = .returned (.bool false) ∧ w = w') := Lib.hid (HP.out.mono fun _ _ ⟨he, hw⟩ => ⟨by rw [he, extract_to]; exact congrArg (fun b => Ending.returned (.bool b)) hp, hw⟩)
          have HQ := Lib.hid hq
          clear hq hp hd h39 hc HP
          go_wp2_with fail
          refine (HP2.out).mono ?_
          rintro e w1 ⟨rfl, rfl⟩
          go_wp2_with fail
          go_ret
          exact ⟨(congrArg (fun n : Nat => Ending.returned (.int .i64 (n : Int))) HQ.out).symm, rfl⟩
        · obtain ⟨r, hr1⟩ := pre_two hp
          obtain ⟨hr2, hr3⟩ := drop_more hr1
          have hq : res = (k + 2) + qN (s.data.toList.drop (k + 2)) := by rw [U.out, hr1, qN_two, hr2]; omega
          have hk2 : k + 2 ≤ s.size := by rw [Array.length_toList] at hr3; exact hr3
          have HP2 : Hid (Calls Tryz.prog 118 #[.string (s.extract k s.size), .string ⟨#[39, 39]⟩] w fun e w' => e = .returned (.bool true) ∧ w = w') := Lib.hid (HP.out.mono fun _ _ ⟨he, hw⟩ => ⟨by rw [he, extract_to]; exact congrArg (fun b => Ending.returned (.bool b)) hp, hw⟩)
          have HQ := Lib.hid hq
          clear hq hp hd h39 hc HP hr1 hr2 hr3
          go_wp2_with fail
          refine (HP2.out).mono ?_
          rintro e w1 ⟨rfl, rfl⟩
          go_wp2_with fail
          go_round
          case rel => exact ⟨k + 2, by go_num, by omega, hk2, HQ⟩
          case measure => simp [intOf]; omega
      · have hc : ¬ (s[k].toNat : Int) = 39 := byte_ne (n := 39) h39 (by omega)
        have tb : ((s[k].toNat : Int) != 39) = true := by rw [bne_iff_ne]; exact hc
        have hq : res = (k + 1) + qN (s.data.toList.drop (k + 1)) := by rw [U.out, hd, qN_ne _ _ h39]; omega
        have HQ := Lib.hid hq
        clear hq hd h39 hc
        go_wp2_with fail
        go_round
        case rel => exact ⟨k + 1, by go_num, by omega, by omega, HQ⟩
        case measure => simp [intOf]; omega
    · obtain rfl : k = s.size := by omega
      have hq : res = s.size := by rw [U.out, List.drop_of_length_le (by rw [Array.length_toList]; exact Nat.le_refl _), qN_nil]; rfl
      have HQ := Lib.hid hq
      clear hq
      go_wp2_with fail
      go_ret
      exact ⟨(congrArg (fun n : Nat => Ending.returned (.int .i64 (n : Int))) HQ.out).symm, rfl⟩
end Go.Proofs.YtjaclmoobfeikaaGreatDoor
namespace Go.Proofs.YtjaclmoobfeikaaGreatDoor
open Go.RowKit

def colGood (K : Int) (i : Nat) (c : Cl) : Prop := nameB c.n = true ∧ (c.k = 1 ∨ c.k = 2 ∨ c.k = 3) ∧ ((i : Int) < K → c.b = false)
theorem box3_new6 (w : World) (x y z : Value) (T : TypeId) : (w.alloc (.cells #[x, y, z] T)).cell? ⟨w.heap.size, 0, none⟩ = some x ∧ (w.alloc (.cells #[x, y, z] T)).cell? ⟨w.heap.size, 1, none⟩ = some y ∧ (w.alloc (.cells #[x, y, z] T)).cell? ⟨w.heap.size, 2, none⟩ = some z := by
  have e := heap_alloc_new w (.cells #[x, y, z] T)
  exact ⟨cell_of_row _ _ 0 _ _ _ e, cell_of_row _ _ 1 _ _ _ e, cell_of_row _ _ 2 _ _ _ e⟩
end Go.Proofs.YtjaclmoobfeikaaGreatDoor
