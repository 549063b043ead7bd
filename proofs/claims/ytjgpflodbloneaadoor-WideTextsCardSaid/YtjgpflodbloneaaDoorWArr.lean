/- Arrays of 128 bools as values and as blocks of memory: how one is set, read and compared. Plain. -/
import Derived.Test.YtjgpflodbloneaaDoorRows
import Derived.WalkKit
import Derived.WalkSpells
import Derived.WalkLawsBesides
import Derived.Laws.Rows
import Derived.Deep.MidRow
import Derived.Lib.Hide
namespace Go.Proofs.YtjgpflodbloneaaDoor
open Go.RowKit

theorem ret_bool {a b : Bool} (h : a = b) : Ending.returned (.bool a) = .returned (.bool b) := by rw [h]
theorem ret_int {k : IntKind} {a b : Int} (h : a = b) : Ending.returned (.int k a) = .returned (.int k b) := by rw [h]

/-- 128 bools as cells. -/
def fL (f : Nat → Bool) : List Value := (List.range 128).map fun i => .bool (f i)
def fArr (f : Nat → Bool) : Array Value := (fL f).toArray
theorem fL_length (f : Nat → Bool) : (fL f).length = 128 := by simp [fL]
theorem fL_one (f : Nat → Bool) : ∀ v ∈ fL f, v.oneCell' = true := by
  intro v hv
  simp only [fL, List.mem_map] at hv
  obtain ⟨i, _, rfl⟩ := hv
  rfl
theorem fArr_size (f : Nat → Bool) : (fArr f).size = 128 := by simp [fArr, fL]
theorem fArr_get (f : Nat → Bool) {i : Nat} (h : i < 128) : (fArr f)[i]? = some (.bool (f i)) := by simp [fArr, fL, h]
theorem fArr_ext {f g : Nat → Bool} (h : ∀ i, i < 128 → f i = g i) : fArr f = fArr g := by
  unfold fArr fL
  congr 1
  apply List.map_congr_left
  intro i hi
  rw [h i (by simpa using hi)]
theorem fArr_inj {f g : Nat → Bool} (h : fArr f = fArr g) {i : Nat} (hi : i < 128) : f i = g i := by
  have h1 := fArr_get f hi
  rw [h, fArr_get g hi] at h1
  simpa using h1.symm
theorem fArr_set (f : Nat → Bool) {i : Nat} (h : i < 128) (b : Bool) : (fArr f).setIfInBounds i (.bool b) = fArr (fun j => if j = i then b else f j) := by
  apply Array.ext_getElem?
  intro j
  rw [Array.getElem?_setIfInBounds]
  by_cases hj : j < 128
  · rw [fArr_get _ hj, fArr_get _ hj]
    by_cases e : i = j
    · subst e; simp [fArr_size, h]
    · have e' : ¬ j = i := fun h => e h.symm
      simp [e, e']
  · have h1 : (fArr f)[j]? = none := by rw [Array.getElem?_eq_none]; rw [fArr_size]; omega
    have h2 : (fArr fun j => if j = i then b else f j)[j]? = none := by rw [Array.getElem?_eq_none]; rw [fArr_size]; omega
    have e : ¬ i = j := by omega
    simp [h1, h2, e]
theorem fArr_one (f : Nat → Bool) : (fArr f).all (·.oneCell') = true :=
  Array.all_eq_true_iff_forall_mem.2 fun v hv => fL_one f v (by simpa [fArr] using hv)

/-- The bits of a number of 128. -/
def wArr (x : BitVec 128) : Array Value := fArr fun i => x.getLsbD i
theorem wArr_inj {x y : BitVec 128} (h : wArr x = wArr y) : x = y := by
  apply BitVec.eq_of_getLsbD_eq
  intro i hi
  exact fArr_inj h hi
theorem fArr_zero : fArr (fun _ => false) = wArr 0#128 := fArr_ext fun i _ => by simp

/-- A block of memory is such an array. -/
def BArr (w : World) (g : Nat) (f : Nat → Bool) : Prop := w.heap[g]? = some (.cells (fArr f) 29 (0, 0))
theorem BArr.cell {w : World} {g : Nat} {f : Nat → Bool} (h : BArr w g f) {i : Nat} (hi : i < 128) : w.cell? ⟨g, i, none⟩ = some (.bool (f i)) := by
  rw [cell_of_row w g i _ _ _ h, fArr_get f hi]
theorem BArr.frozen {w : World} {g : Nat} {f : Nat → Bool} (h : BArr w g f) (i : Nat) : w.frozen? ⟨g, i, none⟩ = false := frozen_of_row w g i _ _ h
theorem BArr.set {w : World} {g : Nat} {f : Nat → Bool} (h : BArr w g f) {i : Nat} (hi : i < 128) (b : Bool) : BArr (w.setCell ⟨g, i, none⟩ (.bool b)) g (fun j => if j = i then b else f j) := by
  unfold BArr
  rw [heap_setCell_same w g i _ _ _ h, fArr_set f hi]
theorem BArr.set_other {w : World} {g g' : Nat} {f : Nat → Bool} (h : BArr w g f) (hn : g ≠ g') (i : Nat) (v : Value) : BArr (w.setCell ⟨g', i, none⟩ v) g f := by
  unfold BArr
  rw [heap_setCell_other w _ g v hn]; exact h
theorem BArr.keep {w w' : World} {g : Nat} {f : Nat → Bool} (h : BArr w g f) (hb : Below w.heap.size w w') : BArr w' g f := by
  have hlt : g < w.heap.size := by
    rcases Nat.lt_or_ge g w.heap.size with h' | h'
    · exact h'
    · unfold BArr at h; rw [Array.getElem?_eq_none h'] at h; cases h
  unfold BArr at h ⊢
  rw [← h]
  exact hb.block g hlt
theorem BArr.new (w : World) (f : Nat → Bool) : BArr (w.alloc (.cells (fArr f) 29)) w.heap.size f := heap_alloc_new w _
theorem BArr.lt {w : World} {g : Nat} {f : Nat → Bool} (h : BArr w g f) : g < w.heap.size := by
  rcases Nat.lt_or_ge g w.heap.size with h' | h'
  · exact h'
  · unfold BArr at h; rw [Array.getElem?_eq_none h'] at h; cases h
theorem BArr.range {w : World} {g : Nat} {f : Nat → Bool} (h : BArr w g f) : w.rangeAt g 0 (fL f) := fun j v hv => by
  rw [Nat.zero_add, cell_of_row w g j _ _ _ h]
  simpa [fArr] using hv
theorem BArr.there {w : World} {g : Nat} {f : Nat → Bool} (h : BArr w g f) : w.there g 0 128 := fun j hj => by
  rw [Nat.zero_add]
  exact ⟨by rw [h.cell hj]; rfl, h.frozen j⟩
theorem wide_len (f : Nat → Bool) : (Tryd.prog.info? 29).map (·.size) = some (fL f).length := by rw [fL_length]; kernel_rfl
theorem wide_info : (Tryd.prog.info? 29).map (·.size) = some 128 := by kernel_rfl
theorem wide_zero : (Tryd.prog.info? 29).bind (·.zero) = some (.agg (fArr fun _ => false)) := by kernel_rfl
end Go.Proofs.YtjgpflodbloneaaDoor
