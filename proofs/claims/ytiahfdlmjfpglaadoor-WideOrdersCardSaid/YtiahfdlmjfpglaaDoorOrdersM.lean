/- Plain mathematics for WideOrders: the sum of a list in any order, in two parts. -/
import Derived.Test.YtiahfdlmjfpglaaDoorTotal
namespace Go.Proofs.YtiahfdlmjfpglaaDoor

theorem sum_parts (l m : List Int) : sumL (l ++ m) = sumL l + sumL m := by
  unfold sumL
  rw [List.sum_append, BitVec.ofInt_add]
theorem sum_cut (l : List Int) (k : Nat) : sumL (l.take k) + sumL (l.drop k) = sumL l := by
  rw [← sum_parts, List.take_append_drop]
theorem sum_turned (l : List Int) (k : Nat) : sumL (l.drop k ++ l.take k) = sumL l := by
  rw [sum_parts, BitVec.add_comm, sum_cut]
theorem sum_back (l : List Int) : sumL l.reverse = sumL l := by
  unfold sumL
  congr 1
  induction l with
  | nil => rfl
  | cons a t ih => rw [List.reverse_cons, List.sum_append, ih]; simp; omega
theorem sum_comes (x n : BitVec 128) : x + n - n = x := by
  rw [BitVec.add_sub_cancel]
end Go.Proofs.YtiahfdlmjfpglaaDoor
