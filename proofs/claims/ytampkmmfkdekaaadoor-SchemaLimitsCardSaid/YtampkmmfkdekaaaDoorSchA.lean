/- Layer 6's fixed fact: the example's table and its check. -/
import Derived.Test.YtampkmmfkdekaaaDoorSchI
namespace Go.Proofs.YtampkmmfkdekaaaDoor
open Go.RowKit

def exCols : List Cl := [⟨⟨#[97]⟩, 2, false⟩, ⟨⟨#[98]⟩, 3, true⟩]
theorem ex_cols (w : World) (T : TypeId) : ColsAt (w.alloc (.cells #[.string ⟨#[97]⟩, .int .i64 2, .bool false, .string ⟨#[98]⟩, .int .i64 3, .bool true] T)).heap.size (w.alloc (.cells #[.string ⟨#[97]⟩, .int .i64 2, .bool false, .string ⟨#[98]⟩, .int .i64 3, .bool true] T)) (some ⟨w.heap.size, 0, none⟩) exCols := by
  have e := heap_alloc_new w (.cells #[.string ⟨#[97]⟩, .int .i64 2, .bool false, .string ⟨#[98]⟩, .int .i64 3, .bool true] T)
  refine ⟨by decide, .inr ⟨w.heap.size, 0, rfl, by simp, fun i hi => ?_⟩⟩
  have hi' : i < 2 := hi
  rw [cell_of_row _ _ (0 + i * 3) _ _ _ e, cell_of_row _ _ (0 + i * 3 + 1) _ _ _ e, cell_of_row _ _ (0 + i * 3 + 2) _ _ _ e]
  obtain rfl | rfl : i = 0 ∨ i = 1 := by omega
  all_goals exact ⟨rfl, rfl, rfl⟩
def exTab (a : Option Addr) : Tb := ⟨⟨#[116]⟩, a, 2, exCols, 1⟩
theorem ex_good (a : Option Addr) : ∀ i, i < [exTab a].length → TabGood [exTab a] i ([exTab a].getD i default) := by
  intro i hi
  obtain rfl : i = 0 := by simpa using hi
  refine ⟨by decide, (show 1 ≤ exCols.length by decide), (show exCols.length ≤ 8 by decide), (show nameB ⟨#[116]⟩ = true by decide +kernel), (show (1 : Int) ≤ 1 by decide), (show (1 : Int) ≤ exCols.length by decide), fun j hj => ?_, fun j hj => by omega, fun i hi j hj => ?_, (show exCols.length ≤ 2 by decide)⟩
  · have hj' : j < 2 := hj
    obtain rfl | rfl : j = 0 ∨ j = 1 := by omega
    · exact ⟨(show nameB ⟨#[97]⟩ = true by decide +kernel), .inr (.inl rfl), fun _ => rfl⟩
    · exact ⟨(show nameB ⟨#[98]⟩ = true by decide +kernel), .inr (.inr rfl), fun h => by simp [exTab] at h⟩
  · have hi' : i < 2 := hi
    obtain ⟨rfl, rfl⟩ : i = 1 ∧ j = 0 := by omega
    exact (show ((⟨#[97]⟩ : ByteArray).toList == (⟨#[98]⟩ : ByteArray).toList) = false by decide +kernel)
theorem ex_fits : Fits exCols [⟨2, 1, ⟨#[]⟩⟩, ⟨0, 0, ⟨#[]⟩⟩] ∧ ¬ Fits exCols [⟨0, 0, ⟨#[]⟩⟩, ⟨0, 0, ⟨#[]⟩⟩] := by
  refine ⟨⟨rfl, fun i hi => ?_⟩, fun h => ?_⟩
  · have hi' : i < 2 := hi
    obtain rfl | rfl : i = 0 ∨ i = 1 := by omega
    · decide +kernel
    · decide +kernel
  · have := h.2 0 (by decide)
    revert this
    decide +kernel
theorem row2_at (w : World) (T : TypeId) (x y : Vv) : VvAt (w.alloc (.cells #[.int .i64 x.k, .int .i64 x.n, .string x.s, .int .i64 y.k, .int .i64 y.n, .string y.s] T)).heap.size (w.alloc (.cells #[.int .i64 x.k, .int .i64 x.n, .string x.s, .int .i64 y.k, .int .i64 y.n, .string y.s] T)) (some ⟨w.heap.size, 0, none⟩) [x, y] := by
  have e := heap_alloc_new w (.cells #[.int .i64 x.k, .int .i64 x.n, .string x.s, .int .i64 y.k, .int .i64 y.n, .string y.s] T)
  refine ⟨by simp, .inr ⟨w.heap.size, 0, rfl, by simp, fun i hi => ?_⟩⟩
  have hi' : i < 2 := hi
  rw [cell_of_row _ _ (0 + i * 3) _ _ _ e, cell_of_row _ _ (0 + i * 3 + 1) _ _ _ e, cell_of_row _ _ (0 + i * 3 + 2) _ _ _ e]
  obtain rfl | rfl : i = 0 ∨ i = 1 := by omega
  all_goals exact ⟨rfl, rfl, rfl⟩
end Go.Proofs.YtampkmmfkdekaaaDoor
