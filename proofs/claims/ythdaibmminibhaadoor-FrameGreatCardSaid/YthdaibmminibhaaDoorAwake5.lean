/- Layer 5's fixed fact; the law FrameSums. -/
import Derived.Test.YthdaibmminibhaaDoorEncl
import Derived.Test.YthdaibmminibhaaDoorRefSum5
import Derived.Lib.SlBytesConst
namespace Go.Proofs.YthdaibmminibhaaDoor
open Go.RowKit

def nine : List UInt8 := [49, 50, 51, 52, 53, 54, 55, 56, 57]
theorem crc_nine : (Crc.crc nine).toNat = 3421780262 := by decide +kernel
theorem nine_at (W : World) (T : TypeId) : BAt (W.alloc (.cells #[.int .u8 49, .int .u8 50, .int .u8 51, .int .u8 52, .int .u8 53, .int .u8 54, .int .u8 55, .int .u8 56, .int .u8 57] T (9, 10))).heap.size (W.alloc (.cells #[.int .u8 49, .int .u8 50, .int .u8 51, .int .u8 52, .int .u8 53, .int .u8 54, .int .u8 55, .int .u8 56, .int .u8 57] T (9, 10))) (some ⟨W.heap.size, 0, none⟩) nine := by
  refine ⟨by decide, .inr ⟨W.heap.size, 0, rfl, by simp, fun i hi => ?_⟩⟩
  have e := heap_alloc_new W (.cells #[.int .u8 49, .int .u8 50, .int .u8 51, .int .u8 52, .int .u8 53, .int .u8 54, .int .u8 55, .int .u8 56, .int .u8 57] T (9, 10))
  have hi' : i < 9 := hi
  rw [Nat.zero_add, cell_of_row _ _ i _ _ _ e]
  obtain rfl | rfl | rfl | rfl | rfl | rfl | rfl | rfl | rfl : i = 0 ∨ i = 1 ∨ i = 2 ∨ i = 3 ∨ i = 4 ∨ i = 5 ∨ i = 6 ∨ i = 7 ∨ i = 8 := by omega
  all_goals rfl
theorem numB_zero : numB 0 = [0] := by rw [numB_small (by omega)]; rfl
theorem frB_nil : (frB []).length = 6 ∧ (frB []).getD 0 0 = 83 ∧ (frB []).getD 1 0 = 0 := by
  unfold frB aheadB
  rw [show ([] : List UInt8).length = 0 from rfl, numB_zero]
  exact ⟨rfl, rfl, rfl⟩
set_option maxRecDepth 100000 in
set_option maxHeartbeats 3200000 in
theorem awake5_any (w : World) (ht : Turns w) :
    Calls Tryd.prog 33 #[] w fun e w' => e = .returned (.bool true) ∧ Below w.heap.size w w' := by
  have HE := Lib.hid (encode_yes none 0 [] w ⟨by simp, .inl rfl⟩ (fun _ => rfl) ht (by simp))
  obtain ⟨f6, f0, f1⟩ := frB_nil
  have HT := Lib.hid ht
  generalize frB [] = fr at *
  have HS := Lib.hid (fun (W : World) (ht : Turns (W.alloc (.cells #[.int .u8 49, .int .u8 50, .int .u8 51, .int .u8 52, .int .u8 53, .int .u8 54, .int .u8 55, .int .u8 56, .int .u8 57] 5 (9, 10)))) => sum_any (some ⟨W.heap.size, 0, none⟩) 9 nine _ (nine_at W 5) ht)
  rw [crc_nine] at HS
  have hl9 : nine.length = 9 := rfl
  have kc := fun (w : World) (C : Array Value) (n c : Nat) => Lib.run_convert_bytes_const (P := Tryd.prog) w 32 5 C n c Tryd.underlying32 Tryd.underlying5
  rw [hl9] at HS
  clear ht hl9
  go_enter Tryd.func33, Tryd.ntmps33
  go_wp2_with fail
  refine HE.out.mono ?_
  rintro e w1 ⟨v, rfl, ho, hb⟩
  have K1 := Lib.hid hb
  obtain ⟨g, c, rfl, hsrc⟩ := ho.src (by omega)
  have c0 : w1.cell? ⟨g, 0, none⟩ = some (.int .u8 83) := by
    have := hsrc 0 (bV 83) (by rw [List.getElem?_map]; simp [List.getD] at f0; rw [List.getElem?_eq_getElem (by omega)] at f0 ⊢; simp at f0 ⊢; rw [f0])
    rw [add_at] at this
    simpa [bV] using this
  have c1 : w1.cell? ⟨g, 1, none⟩ = some (.int .u8 0) := by
    have := hsrc 1 (bV 0) (by rw [List.getElem?_map]; simp [List.getD] at f1; rw [List.getElem?_eq_getElem (by omega)] at f1 ⊢; simp at f1 ⊢; rw [f1])
    rw [add_at] at this
    simpa [bV] using this
  have hg := block_lt_of_cell c0
  have hgg : g < w1.heap.size := hg
  have HT1 := Lib.hid (HT.out.keep (grown_below hb none))
  rw [f6]
  have hgap : (6 : Int) ≤ 6 := by omega
  clear ho hb hsrc hg f6 f0 f1
  go_wp2_with fail
  refine (HS.out w1 (HT1.out.keep (World.grownBy_alloc _ _ none))).mono ?_
  rintro e w2 ⟨rfl, rfl⟩
  go_wp2_with fail
  go_ret
  exact ⟨ret_bool (by simp), K1.out.trans ((Below.refl w1.heap.size w1).alloc (Nat.le_refl _) _ |>.mono K1.out.size)⟩

end Go.Proofs.YthdaibmminibhaaDoor
