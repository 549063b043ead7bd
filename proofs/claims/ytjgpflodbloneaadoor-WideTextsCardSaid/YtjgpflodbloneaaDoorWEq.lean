/- Two arrays of 128 bools are told to be the same just if they are. -/
import Derived.Test.YtjgpflodbloneaaDoorBitsM
import Derived.ChangeKeysEq
namespace Go.Proofs.YtjgpflodbloneaaDoor
open Go.RowKit

theorem items_any (d : Nat) (f g : Nat → Bool) (w : World) : ∀ is : List Nat, (∀ i ∈ is, i < 128) →
    (Op.eqItems (d + 1) 4 (Tryd.prog.cellsOf 4) (fArr f) (fArr g) is).run Tryd.prog w = .ok (is.all fun i => f i == g i) w
  | [], _ => by simp [Op.eqItems]
  | i :: is, h => by
    have hc : Tryd.prog.cellsOf 4 = 1 := by kernel_rfl
    have ih := items_any d f g w is (fun j hj => h j (by simp [hj]))
    have hi := h i (by simp)
    rw [hc] at ih ⊢
    have p1 : (part 4 (fArr f) (i * 1)).run Tryd.prog w = .ok (.bool (f i)) w := run_part_plain w (P := Tryd.prog) (by kernel_rfl) (by rw [Nat.mul_one]; exact fArr_get f hi)
    have p2 : (part 4 (fArr g) (i * 1)).run Tryd.prog w = .ok (.bool (g i)) w := run_part_plain w (P := Tryd.prog) (by kernel_rfl) (by rw [Nat.mul_one]; exact fArr_get g hi)
    have p3 := run_equalIn_bool (P := Tryd.prog) w d 4 (f i) (g i) Tryd.underlying4
    simp only [Op.eqItems, Sem.run_bind, p1, p2, p3, Result.andThen_ok]
    cases e : (f i == g i)
    · simp [e]
    · simp only [Bool.not_true, Bool.false_eq_true, if_false, List.all_cons, e, Bool.true_and]
      exact ih

theorem all_range (x y : BitVec 128) : ((List.range 128).all fun i => x.getLsbD i == y.getLsbD i) = decide (x = y) := by
  rw [Bool.eq_iff_iff, decide_eq_true_eq]
  simp only [List.all_eq_true, List.mem_range, beq_iff_eq]
  exact ⟨fun h => BitVec.eq_of_getLsbD_eq h, fun h i _ => by rw [h]⟩
set_option maxRecDepth 100000 in
theorem wide_equal (x y : BitVec 128) (w : World) : (Op.equalIn 10000 29 (.agg (wArr x)) (.agg (wArr y))).run Tryd.prog w = .ok (decide (x = y)) w := by
  obtain ⟨i, hi⟩ : ∃ i, Tryd.prog.info? 4 = some i := ⟨_, rfl⟩
  rw [run_equalIn_array w 9999 (P := Tryd.prog) _ _ Tryd.underlying29 hi]
  unfold wArr
  rw [items_any 9998 _ _ w _ (fun i hi => by simpa using hi), all_range]
end Go.Proofs.YtjgpflodbloneaaDoor
