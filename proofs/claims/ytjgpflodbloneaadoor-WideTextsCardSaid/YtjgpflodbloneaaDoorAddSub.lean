/- Contracts of the program's Of, Add, Sub, and of the law's bits. -/
import Derived.Test.YtjgpflodbloneaaDoorIntr
import Derived.Test.YtjgpflodbloneaaDoorRefBits
import Derived.Test.YtjgpflodbloneaaDoorRefAdd
namespace Go.Proofs.YtjgpflodbloneaaDoor
open Go.RowKit

set_option maxHeartbeats 800000 in
theorem of_any (n : Int) (w : World) (h0 : -9223372036854775808 ≤ n) (h1 : n ≤ 9223372036854775807) :
    Calls Tryd.prog 35 #[.int .i64 n] w fun e w' => e = .returned (.agg #[.int .i64 (hiB (BitVec.ofInt 128 n)), .int .u64 (loB (BitVec.ofInt 128 n))]) ∧ Below w.heap.size w w' := by
  have e1 := of_hi n h0 h1
  have e2 := of_lo n
  have hw : IntKind.u64.wrap n = ((hN n : Nat) : Int) := by unfold hN; simp [IntKind.wrap, IntKind.signed, IntKind.bits]; omega
  rw [e1, e2]
  clear e1 e2
  generalize hN n = l at *
  go_enter Tryd.func35, Tryd.ntmps35
  go_wp2
  exact bodyPost_ret (v := .agg #[.int .i64 (n / 9223372036854775808), .int .u64 l]) (by simp [results, Tryd.results35, go_sem]) rfl ⟨rfl, (Below.refl _ _).alloc (Nat.le_refl _) _⟩

set_option maxHeartbeats 1600000 in
theorem add_any (x y : BitVec 128) (w : World) :
    Calls Tryd.prog 36 #[.agg #[.int .i64 (hiB x), .int .u64 (loB x)], .agg #[.int .i64 (hiB y), .int .u64 (loB y)]] w fun e w' => e = .returned (.agg #[.int .i64 (hiB (x + y)), .int .u64 (loB (x + y))]) ∧ Below w.heap.size w w' := by
  have HA := add64_0 (loB x) (loB y)
  have e1 := add_lo x y
  have e2 := add_hi x y
  have hc : ((loB x + loB y) / 18446744073709551616 : Nat) ≤ 1 := by have := lo_lt x; have := lo_lt y; omega
  rw [← e1] at HA
  generalize (loB x + loB y) / 18446744073709551616 = c at *
  have E2 := Lib.hid e2
  clear e1 e2
  generalize hiB (x + y) = hz at *
  generalize loB (x + y) = lz at *
  generalize hiB x = hx at *
  generalize hiB y = hy at *
  generalize loB x = lx at *
  generalize loB y = ly at *
  go_enter Tryd.func36, Tryd.ntmps36
  go_wp2_with (simp only [HA])
  have e : wrap64 (wrap64 (hx + hy) + (c : Int)) = hz := by rw [E2.out]; simp only [w64, wrap64]
  rw [e]
  exact bodyPost_ret (v := .agg #[.int .i64 hz, .int .u64 lz]) (by simp [results, Tryd.results36, go_sem]) rfl ⟨rfl, (((Below.refl _ _).alloc (Nat.le_refl _) _).alloc (by simp) _).alloc (by simp; omega) _⟩

set_option maxHeartbeats 1600000 in
theorem sub_any (x y : BitVec 128) (w : World) :
    Calls Tryd.prog 19 #[.agg #[.int .i64 (hiB x), .int .u64 (loB x)], .agg #[.int .i64 (hiB y), .int .u64 (loB y)]] w fun e w' => e = .returned (.agg #[.int .i64 (hiB (x - y)), .int .u64 (loB (x - y))]) ∧ Below w.heap.size w w' := by
  have HA := sub64_0 (loB x) (loB y)
  have e1 : (loB x + 18446744073709551616 - loB y) % 18446744073709551616 = loB (x - y) := by have := sub_lo x y; have := lo_lt y; omega
  rw [e1] at HA
  generalize hb : (if loB x < loB y then 1 else 0 : Nat) = c at *
  have e2 := sub_hi x y hb.symm
  have hc : c ≤ 1 := by rw [← hb]; split <;> omega
  have E2 := Lib.hid e2
  clear e1 e2 hb
  generalize hiB (x - y) = hz at *
  generalize loB (x - y) = lz at *
  generalize hiB x = hx at *
  generalize hiB y = hy at *
  generalize loB x = lx at *
  generalize loB y = ly at *
  go_enter Tryd.func19, Tryd.ntmps19
  go_wp2_with (simp only [HA])
  have e : wrap64 (wrap64 (hx - hy) - (c : Int)) = hz := by rw [E2.out]; simp only [w64, wrap64]
  rw [e]
  exact bodyPost_ret (v := .agg #[.int .i64 hz, .int .u64 lz]) (by simp [results, Tryd.results19, go_sem]) rfl ⟨rfl, (((Below.refl _ _).alloc (Nat.le_refl _) _).alloc (by simp) _).alloc (by simp; omega) _⟩

set_option maxHeartbeats 1600000 in
theorem bits_any (x : BitVec 128) (w : World) :
    Calls Tryd.prog 8 #[.agg #[.int .i64 (hiB x), .int .u64 (loB x)]] w fun e w' => e = .returned (.agg (wArr x)) ∧ Below w.heap.size w w' := by
  have HB := Lib.hid (fun w => refBits_any (hiB x) (loB x) w (lo_lt x))
  rw [mk_hi_lo] at HB
  generalize hiB x = hx at *
  generalize loB x = lx at *
  have HR := BArr.zero (w.alloc (.cells #[.int .i64 hx, .int .u64 lx] 24))
  simp only [World.size_alloc] at HR
  have HR' := Lib.hid HR
  clear HR
  go_enter Tryd.func8, Tryd.ntmps8
  go_wp2_with fail
  refine (HB.out _).mono ?_
  rintro e w1 ⟨rfl, hb⟩
  have HR1 := HR'.out.keep hb
  go_wp2_with (refine wpList_store_row rfl 29 _ _ rfl (w.heap.size + 1) (wArr x) rfl rfl 29 (fArr fun _ => false) HR1 (by rw [wArr, fArr_size]; kernel_rfl) (by rw [wArr, fArr_size, fArr_size]) (fArr_one _) ?_)
  have HR2 := setRow_heap w1 (w.heap.size + 1) (fArr fun _ => false) (wArr x) _ (0, 0) HR1
  exact bodyPost_ret (v := .agg (wArr x)) (results_cell_row rfl _ _ (w.heap.size + 1) _ _ (0, 0) _ rfl HR2 Tryd.underlying29 rfl (by rw [wArr, fArr_size]; kernel_rfl)) rfl ⟨rfl, below_setRow ((((Below.refl _ _).alloc (Nat.le_refl _) _).alloc (by simp) _).trans (hb.mono (by simp; omega))) (by omega)⟩
end Go.Proofs.YtjgpflodbloneaaDoor
