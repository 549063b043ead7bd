import Derived.Test.YtpklajadfbigcaaGreatDoorRows
import Derived.WalkKit
import Derived.WalkSpells
import Derived.WalkLawsBesides
import Derived.Test.YtpklajadfbigcaaGreatDoorProg
import Derived.LaidEql
import Derived.Stop.Asserts
import Derived.RowKitTokens
import Derived.Lib.Hide
import Derived.Maps.AppendAt
import Derived.Deep.AppendLies
import Derived.Laws.Rows
import Derived.Deep.MidRow
set_option linter.unusedSimpArgs false
set_option linter.unusedVariables false
namespace Go.Proofs.YtpklajadfbigcaaGreatDoor
open Go.RowKit

def goodB (k n : Int) (s : ByteArray) : Bool :=
  if k = 0 then n == 0 && s.toList.isEmpty
  else if k = 1 then (n == 0 || n == 1) && s.toList.isEmpty
  else if k = 2 then s.toList.isEmpty
  else if k = 3 then n == 0 && decide (s.size ≤ 60)
  else false

theorem ret_bool {a b : Bool} (h : a = b) : Ending.returned (.bool a) = .returned (.bool b) := by rw [h]
theorem ret_int {k : IntKind} {a b : Int} (h : a = b) : Ending.returned (.int k a) = .returned (.int k b) := by rw [h]

set_option maxHeartbeats 400000 in
theorem refGood_any (k n : Int) (s : ByteArray) (w : World) :
    Calls Tryz.prog 42 #[.agg #[.int .i64 k, .int .i64 n, .string s]] w fun e w' => e = .returned (.bool (goodB k n s)) ∧ Below w.heap.size w w' := by
  go_enter Tryz.func42, Tryz.ntmps42
  go_wp2
  all_goals
    go_ret
    refine ⟨ret_bool ?_, (Below.refl _ _).alloc (Nat.le_refl _) _⟩
    simp_all [goodB]
    all_goals first | done | omega | (intro _; omega)
end Go.Proofs.YtpklajadfbigcaaGreatDoor
namespace Go.Proofs.YtpklajadfbigcaaGreatDoor
open Go.RowKit

def inI (n : Int) : Bool := decide (-9223372036854775808 ≤ n) && decide (n ≤ 9223372036854775807)
end Go.Proofs.YtpklajadfbigcaaGreatDoor
namespace Go.Proofs.YtpklajadfbigcaaGreatDoor

inductive Tr (K R : Type) where
  | nil : Tr K R
  | node : Tr K R → K → R → Tr K R → Tr K R
namespace Tr
variable {K R : Type}
def h : Tr K R → Nat
  | nil => 0
  | node l _ _ r => max (h l) (h r) + 1
def n : Tr K R → Nat
  | nil => 0
  | node l _ _ r => n l + 1 + n r
def rotR (l : Tr K R) (k : K) (v : R) (r : Tr K R) : Tr K R :=
  match l with
  | nil => node nil k v r
  | node ll lk lv lr =>
    if h lr ≤ h ll then node ll lk lv (node lr k v r) else
    match lr with
    | nil => node (node ll lk lv nil) k v r
    | node a ik iv b => node (node ll lk lv a) ik iv (node b k v r)
def rotL (l : Tr K R) (k : K) (v : R) (r : Tr K R) : Tr K R :=
  match r with
  | nil => node l k v nil
  | node rl rk rv rr =>
    if h rl ≤ h rr then node (node l k v rl) rk rv rr else
    match rl with
    | nil => node l k v (node nil rk rv rr)
    | node a ik iv b => node (node l k v a) ik iv (node b rk rv rr)
def bal (l : Tr K R) (k : K) (v : R) (r : Tr K R) : Tr K R :=
  if h l = h r + 2 then rotR l k v r else if h r = h l + 2 then rotL l k v r else node l k v r
def ok : Tr K R → Prop
  | nil => True
  | node l _ _ r => ok l ∧ ok r ∧ h l ≤ h r + 1 ∧ h r ≤ h l + 1
variable (c : K → K → Int)
def put (k : K) (v : R) : Tr K R → Tr K R
  | nil => node nil k v nil
  | node l k' v' r => if c k k' < 0 then bal (put k v l) k' v' r else if 0 < c k k' then bal l k' v' (put k v r) else node l k v r
variable {c}
end Tr
end Go.Proofs.YtpklajadfbigcaaGreatDoor
namespace Go.Proofs.YtpklajadfbigcaaGreatDoor
open Go.RowKit Go.Extern.Stop Go.Stop Go.Extern

/-! ### at F -/
end Go.Proofs.YtpklajadfbigcaaGreatDoor
namespace Go.Proofs.YtpklajadfbigcaaGreatDoor
namespace Wd
open Go.RowKit

def fL (f : Nat → Bool) : List Value := (List.range 128).map fun i => .bool (f i)
def fArr (f : Nat → Bool) : Array Value := (fL f).toArray
theorem fL_one (f : Nat → Bool) : ∀ v ∈ fL f, v.oneCell' = true := by
  intro v hv
  simp only [fL, List.mem_map] at hv
  obtain ⟨i, _, rfl⟩ := hv
  rfl
theorem fArr_size (f : Nat → Bool) : (fArr f).size = 128 := by simp [fArr, fL]
theorem fArr_get (f : Nat → Bool) {i : Nat} (h : i < 128) : (fArr f)[i]? = some (.bool (f i)) := by simp [fArr, fL, h]
theorem fArr_ext {f g : Nat → Bool} (h : ∀ i, i < 128 → f i = g i) : fArr f = fArr g := by
  unfold fArr fL
  congr 1
  apply List.map_congr_left
  intro i hi
  rw [h i (by simpa using hi)]
theorem fArr_set (f : Nat → Bool) {i : Nat} (h : i < 128) (b : Bool) : (fArr f).setIfInBounds i (.bool b) = fArr (fun j => if j = i then b else f j) := by
  apply Array.ext_getElem?
  intro j
  rw [Array.getElem?_setIfInBounds]
  by_cases hj : j < 128
  · rw [fArr_get _ hj, fArr_get _ hj]
    by_cases e : i = j
    · subst e; simp [fArr_size, h]
    · have e' : ¬ j = i := fun h => e h.symm
      simp [e, e']
  · have h1 : (fArr f)[j]? = none := by rw [Array.getElem?_eq_none]; rw [fArr_size]; omega
    have h2 : (fArr fun j => if j = i then b else f j)[j]? = none := by rw [Array.getElem?_eq_none]; rw [fArr_size]; omega
    have e : ¬ i = j := by omega
    simp [h1, h2, e]
theorem fArr_one (f : Nat → Bool) : (fArr f).all (·.oneCell') = true :=
  Array.all_eq_true_iff_forall_mem.2 fun v hv => fL_one f v (by simpa [fArr] using hv)

def wArr (x : BitVec 128) : Array Value := fArr fun i => x.getLsbD i
theorem fArr_zero : fArr (fun _ => false) = wArr 0#128 := fArr_ext fun i _ => by simp

def BArr (w : World) (g : Nat) (f : Nat → Bool) : Prop := w.heap[g]? = some (.cells (fArr f) 103 (0, 0))
theorem BArr.cell {w : World} {g : Nat} {f : Nat → Bool} (h : BArr w g f) {i : Nat} (hi : i < 128) : w.cell? ⟨g, i, none⟩ = some (.bool (f i)) := by
  rw [cell_of_row w g i _ _ _ h, fArr_get f hi]
theorem BArr.frozen {w : World} {g : Nat} {f : Nat → Bool} (h : BArr w g f) (i : Nat) : w.frozen? ⟨g, i, none⟩ = false := frozen_of_row w g i _ _ h
theorem BArr.set {w : World} {g : Nat} {f : Nat → Bool} (h : BArr w g f) {i : Nat} (hi : i < 128) (b : Bool) : BArr (w.setCell ⟨g, i, none⟩ (.bool b)) g (fun j => if j = i then b else f j) := by
  unfold BArr
  rw [heap_setCell_same w g i _ _ _ h, fArr_set f hi]
theorem BArr.set_other {w : World} {g g' : Nat} {f : Nat → Bool} (h : BArr w g f) (hn : g ≠ g') (i : Nat) (v : Value) : BArr (w.setCell ⟨g', i, none⟩ v) g f := by
  unfold BArr
  rw [heap_setCell_other w _ g v hn]; exact h
theorem BArr.keep {w w' : World} {g : Nat} {f : Nat → Bool} (h : BArr w g f) (hb : Below w.heap.size w w') : BArr w' g f := by
  have hlt : g < w.heap.size := by
    rcases Nat.lt_or_ge g w.heap.size with h' | h'
    · exact h'
    · unfold BArr at h; rw [Array.getElem?_eq_none h'] at h; cases h
  unfold BArr at h ⊢
  rw [← h]
  exact hb.block g hlt
theorem BArr.new (w : World) (f : Nat → Bool) : BArr (w.alloc (.cells (fArr f) 103)) w.heap.size f := heap_alloc_new w _
theorem BArr.lt {w : World} {g : Nat} {f : Nat → Bool} (h : BArr w g f) : g < w.heap.size := by
  rcases Nat.lt_or_ge g w.heap.size with h' | h'
  · exact h'
  · unfold BArr at h; rw [Array.getElem?_eq_none h'] at h; cases h
theorem BArr.range {w : World} {g : Nat} {f : Nat → Bool} (h : BArr w g f) : w.rangeAt g 0 (fL f) := fun j v hv => by
  rw [Nat.zero_add, cell_of_row w g j _ _ _ h]
  simpa [fArr] using hv
theorem BArr.there {w : World} {g : Nat} {f : Nat → Bool} (h : BArr w g f) : w.there g 0 128 := fun j hj => by
  rw [Nat.zero_add]
  exact ⟨by rw [h.cell hj]; rfl, h.frozen j⟩
theorem wide_info : (Tryz.prog.info? 103).map (·.size) = some 128 := by kernel_rfl
end Wd
end Go.Proofs.YtpklajadfbigcaaGreatDoor
