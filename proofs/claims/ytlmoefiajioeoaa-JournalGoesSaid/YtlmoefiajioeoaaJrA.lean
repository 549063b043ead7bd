/- The journal's New, End, Horizon, copied. -/
import Derived.Test.YtlmoefiajioeoaaJr
import Derived.Lib.SliceRun
import Derived.Deep.QuietTactic
import Derived.BigQuiet
namespace Go.Proofs.Ytlmoefiajioeoaa
open Go.RowKit

theorem cloneC_any (w : World) : Calls Try.prog 57 #[.slice none 0 0] w fun e w' => e = .returned (.slice none 0 0) ∧ w = w' := by
  have hE : ∀ w, (binOp .eql 46 (.slice none 0 0) (.slice none 0 0)).run Try.prog w = .ok (.bool true) w := fun w => Lib.run_eql_slice_nil w _ _ _ _ _ _ _ Try.underlying46
  go_enter Try.func57, Try.ntmps57
  go_wp2_with fail
  go_ret
  exact ⟨rfl, rfl⟩
abbrev cC (v : Int) : Obj := .cells #[.int .i64 v, .slice none 0 0] 57
theorem copied_any (v : Int) (w : World) : Calls Try.prog 46 #[.agg #[.int .i64 v, .slice none 0 0]] w fun e w' => e = .returned (.agg #[.int .i64 v, .slice none 0 0]) ∧ w.grownBy w' none := by
  go_enter Try.func46, Try.ntmps46
  go_wp2_with fail
  refine (cloneC_any _).mono ?_
  rintro e w1 ⟨rfl, rfl⟩
  go_wp2_with fail
  go_loop [12] (fun i => i = .int .i64 0) (fun _ => 0)
  case atStart => rfl
  case round =>
    subst hrel
    go_wp2_with fail
    exact bodyPost_ret (v := .agg #[.int .i64 v, .slice none 0 0]) (by simp [results, Try.results46, go_sem]) rfl ⟨rfl, (World.grownBy_alloc _ _ none).trans (World.grownBy_alloc _ _ none)⟩
theorem new_any (room at' : Int) (w : World) (h1 : 1 ≤ room) (h2 : room ≤ 1000) (h3 : 0 ≤ at') (h4 : at' ≤ 1099511627776) : Calls Try.prog 21 #[.int .i64 room, .int .i64 at'] w fun e w' => (∃ J, e = .returned (.tuple #[.pointer (some ⟨J, 0, none⟩), .int .i64 0]) ∧ JAt w.heap.size J w' room at' 0) ∧ w.grownBy w' none := by
  have HJ := Lib.hid (show JAt w.heap.size w.heap.size (w.alloc (.cells #[.int .i64 room, .int .i64 at', .slice none 0 0] 96)) room at' 0 from ⟨Nat.le_refl _, none, 0, heap_alloc_new _ _, Nat.le_refl _, Nat.zero_le _, .inl rfl⟩)
  have u1 : ¬ room < 1 := by omega
  have u2 : ¬ 1000 < room := by omega
  have u3 : ¬ at' < 0 := by omega
  have u4 : ¬ 1099511627776 < at' := by omega
  clear h1 h2 h3 h4
  go_enter Try.func21, Try.ntmps21
  go_wp2_with fail
  go_ret2
  exact ⟨⟨_, rfl, HJ.out⟩, World.grownBy_alloc _ _ none⟩
theorem end_any (J : Nat) (w : World) (room en : Int) (a : Option Addr) (n cap : Nat) (h : Jn J w room en a n cap) : Calls Try.prog 25 #[.pointer (some ⟨J, 0, none⟩)] w fun e w' => e = .returned (.int .i64 en) ∧ w = w' := by
  obtain ⟨c0, c1, c2, f0, f1, f2⟩ := h.cells
  clear h
  go_enter Try.func25, Try.ntmps25
  go_wp2_with fail
  go_ret
  exact ⟨rfl, rfl⟩
theorem horizon_any (J : Nat) (w : World) (room en : Int) (a : Option Addr) (n cap : Nat) (h : Jn J w room en a n cap) (h0 : 0 ≤ en) (h1 : en ≤ 1099511627776) (hn : n ≤ 1000000) : Calls Try.prog 24 #[.pointer (some ⟨J, 0, none⟩)] w fun e w' => e = .returned (.int .i64 (en - n)) ∧ ∃ k, w' = w.drewN k := by
  obtain ⟨c0, c1, c2, f0, f1, f2⟩ := h.cells
  have e1 : IntKind.i64.wrap (en - n) = en - n := by rw [IntKind.wrap_i64]; omega
  clear h h0 h1 hn
  go_enter Try.func24, Try.ntmps24
  go_wp2_with fail
  go_quiet (fail)
  go_wp2_with fail
  go_ret
  exact ⟨rfl, _, rfl⟩
end Go.Proofs.Ytlmoefiajioeoaa
