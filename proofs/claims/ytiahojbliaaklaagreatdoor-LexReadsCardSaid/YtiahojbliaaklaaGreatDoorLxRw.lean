/- The contract of the document's Word. -/
import Derived.Test.YtiahojbliaaklaaGreatDoorLxL
import Derived.Deep.DeepCutAuto
import Derived.Great.BuildSlice
import Derived.Deep.WholeRow
namespace Go.Proofs.YtiahojbliaaklaaGreatDoor
open Go.RowKit

def wdArr : Array Value := #[.string ⟨#[83, 69, 76, 69, 67, 84]⟩, .string ⟨#[70, 82, 79, 77]⟩, .string ⟨#[87, 72, 69, 82, 69]⟩, .string ⟨#[71, 82, 79, 85, 80]⟩, .string ⟨#[79, 82, 68, 69, 82]⟩, .string ⟨#[66, 89]⟩, .string ⟨#[76, 73, 77, 73, 84]⟩, .string ⟨#[65, 83, 67]⟩, .string ⟨#[68, 69, 83, 67]⟩, .string ⟨#[65, 78, 68]⟩, .string ⟨#[79, 82]⟩, .string ⟨#[78, 79, 84]⟩, .string ⟨#[73, 83]⟩, .string ⟨#[73, 78]⟩, .string ⟨#[66, 69, 84, 87, 69, 69, 78]⟩, .string ⟨#[78, 85, 76, 76]⟩, .string ⟨#[84, 82, 85, 69]⟩, .string ⟨#[70, 65, 76, 83, 69]⟩, .string ⟨#[67, 79, 85, 78, 84]⟩, .string ⟨#[83, 85, 77]⟩, .string ⟨#[77, 73, 78]⟩, .string ⟨#[77, 65, 88]⟩]
set_option maxRecDepth 100000 in
set_option maxHeartbeats 3200000 in
theorem refWord_gen (s : ByteArray) (w : World) (f : Nat → ByteArray) (b : Bool)
    (HC : Hid (∀ k, k < 22 → (w.alloc (.cells wdArr 85)).cell? ⟨w.heap.size, k, none⟩ = some (.string (f k))))
    (HB : Hid ((∀ i, i < 22 → ((f i).toList == s.toList) = false) → b = false)) (HB2 : Hid (∀ i, i < 22 → ((f i).toList == s.toList) = true → b = true)) :
    Calls Tryz.prog 20 #[.string s] w fun e w' => e = .returned (.bool b) ∧ w.grownBy w' none := by
  go_enter Tryz.func20, Tryz.ntmps20
  go_upto_region 1 with (fail)
  go_cut [3] (fun a wx => a = .pointer (some ⟨w.heap.size, 0, none⟩) ∧ Hid (∀ k, k < 22 → wx.cell? ⟨w.heap.size, k, none⟩ = some (.string (f k))) ∧ Hid (w.grownBy wx none))
  case first =>
    go_wp2_with (first | (refine wpList_buildTo rfl 85 _ rfl (some 5) rfl wdArr (by kernel_rfl) ?_) | (refine wpList_store_rowTo rfl 85 (.tmp 3) (.tmp 5) rfl rfl w.heap.size wdArr rfl rfl 85 _ (heap_alloc_new w _) (by kernel_rfl) (by kernel_rfl) (by kernel_rfl) ?_))
    rw [World.setRow_alloc_new]
    go_wp2_with fail
    go_meet
    exact ⟨rfl, HC, Lib.hid (World.grownBy_alloc w (.cells wdArr 85) none)⟩
  case rest =>
  obtain ⟨rfl, HC2, KG⟩ := hcut
  clear HC
  go_wp2_with fail
  go_loop [6] (fun i => ∃ k : Nat, i = .int .i64 k ∧ k ≤ 22 ∧ Hid (∀ i, i < k → ((f i).toList == s.toList) = false)) (fun i => 22 - (intOf i).toNat)
  case atStart => exact ⟨0, rfl, by omega, Lib.hid fun i hi => by omega⟩
  case round =>
    obtain ⟨k, rfl, hk, U⟩ := hrel
    by_cases hlt : k < 22
    · have c0 := HC2.out k hlt
      have k0 : (0 : Int) ≤ k := by omega
      have k1 : (k : Int) < 22 := by omega
      obtain ⟨y, hy⟩ : ∃ y, y = f k := ⟨_, rfl⟩
      rw [← hy] at c0
      cases hx : y.toList == s.toList
      · have U2 : Hid (∀ i, i < k + 1 → ((f i).toList == s.toList) = false) := Lib.hid fun i hi => by
          by_cases e : i = k
          · rw [e, ← hy]; exact hx
          · exact U.out i (by omega)
        clear hy
        go_wp2_with fail
        go_round
        case rel => exact ⟨k + 1, by go_num, by omega, U2⟩
        case measure => simp [intOf]; omega
      · have hb := HB2.out k hlt (by rw [← hy]; exact hx)
        subst hb
        clear hy
        go_wp2_with fail
        go_ret
        exact ⟨rfl, KG.out⟩
    · obtain rfl : k = 22 := by omega
      have hb := HB.out U.out
      subst hb
      go_wp2_with fail
      go_ret
      exact ⟨rfl, KG.out⟩
def wdF (k : Nat) : ByteArray := ⟨(words.getD k []).toArray⟩
theorem wdArr_eq : wdArr = (words.map fun l => Value.string ⟨l.toArray⟩).toArray := by rfl
theorem refWord_any (s : ByteArray) (w : World) :
    Calls Tryz.prog 20 #[.string s] w fun e w' => e = .returned (.bool (wordB s.data.toList)) ∧ w.grownBy w' none := by
  refine refWord_gen s w wdF (wordB s.data.toList) (Lib.hid fun k hk => ?_) (Lib.hid fun h => ?_) (Lib.hid fun i hi h => ?_)
  · have e := heap_alloc_new w (.cells wdArr 85)
    rw [cell_of_row _ _ k _ _ _ e, wdArr_eq]
    have hl : k < words.length := hk
    simp [List.getD, hl, wdF]
  · unfold wordB
    rw [List.contains_eq_mem, decide_eq_false_iff_not]
    intro hm
    obtain ⟨i, hi, e⟩ := List.getElem_of_mem hm
    have := h i hi
    rw [Lib.toList_data, Lib.toList_data, beq_eq_false_iff_ne] at this
    exact this (by simp [wdF, List.getD, hi, e])
  · unfold wordB
    rw [Lib.toList_data, Lib.toList_data, beq_iff_eq] at h
    rw [List.contains_eq_mem, decide_eq_true_iff, ← h]
    have hl : i < words.length := hi
    simp [List.getD, hl, wdF]
end Go.Proofs.YtiahojbliaaklaaGreatDoor
