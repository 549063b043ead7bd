/- The contract of the reference's Text, at texts. -/
import Derived.Test.YtiahojbliaaklaaGreatDoorRefText
namespace Go.Proofs.YtiahojbliaaklaaGreatDoor
open Go.RowKit

/-- A slice of bytes of the call's own, over a value's block. -/
structure RI (w : World) (n : Int) (s : ByteArray) (l : List UInt8) (v : Value) (m : Nat) (wr : World) : Prop where
  own : wr.ownsRow w.heap.size 5 1 v m (Lib.byteCells l)
  len : m = l.length
  below : Below w.heap.size w wr
  size : w.heap.size + 1 ≤ wr.heap.size
  blk : wr.heap[w.heap.size]? = some (.cells #[.int .i64 3, .int .i64 n, .string s] 63 (0, 0))

theorem RI.step {w : World} {n : Int} {s : ByteArray} {l x : List UInt8} {v v' : Value} {m k : Nat} {wr w2 : World} {o : Obj} (h : RI w n s l v m wr) (hk : k = x.length)
    (hown : w2.ownsRow w.heap.size 5 1 v' (m + k) (Lib.byteCells l ++ Lib.byteCells x)) (hg : (wr.alloc o).grownBy w2 v.ownBlock) : RI w n s (l ++ x) v' (m + k) w2 := by
  have hne := Lib.ownBlock_ne h.own h.blk (by decide)
  have hs := h.size
  refine ⟨by rw [Lib.byteCells_append]; exact hown, by rw [h.len, hk, List.length_append], (h.below.alloc (by omega) o).grown hg (by simp; omega) (fun k hk => (h.own.lt k hk).1), by have := hg.size; simp at this; omega, ?_⟩
  rw [hg.block w.heap.size (by simp; omega) (fun e => hne e.symm), Lib.alloc_old _ _ _ (by omega)]
  exact h.blk

theorem RI.begin (w : World) (n : Int) (s : ByteArray) : RI w n s [39] (.slice (some ⟨w.heap.size + 1, 0, none⟩) 1 1) 1 ((w.alloc (.cells #[.int .i64 3, .int .i64 n, .string s] 63)).alloc (.cells #[.int .u8 39] 5)) := by
  have h := World.ownsRow_lit (base := w.heap.size) (e := 5) (size := 1) (w.alloc (.cells #[.int .i64 3, .int .i64 n, .string s] 63)) #[.int .u8 39] 1 (by simp) (by decide) rfl
  rw [World.size_alloc] at h
  refine ⟨h, rfl, ((Below.refl _ _).alloc (Nat.le_refl _) _).alloc (by simp) _, by simp, ?_⟩
  rw [Lib.alloc_old _ _ _ (by simp)]
  exact heap_new _ _

end Go.Proofs.YtiahojbliaaklaaGreatDoor
