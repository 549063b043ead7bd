/- The journal's New, End, Horizon, copied. Layer 6's fixed fact: the example's table and its check. errors.As at the store's refusal that is wrapped in a fault. -/
import Derived.Test.YtnfpomjcofhppaaGreatDoorZb07
import Derived.Lib.SliceRun
import Derived.Deep.QuietTactic
import Derived.BigQuiet
import Derived.Test.YtnfpomjcofhppaaGreatDoorZb08
namespace Go.Proofs.YtnfpomjcofhppaaGreatDoor
open Go.RowKit

theorem cloneC_any (w : World) : Calls Tryz.prog 69 #[.slice none 0 0] w fun e w' => e = .returned (.slice none 0 0) ∧ w = w' := by
  have hE : ∀ w, (binOp .eql 34 (.slice none 0 0) (.slice none 0 0)).run Tryz.prog w = .ok (.bool true) w := fun w => Lib.run_eql_slice_nil w _ _ _ _ _ _ _ Tryz.underlying34
  go_enter Tryz.func69, Tryz.ntmps69
  go_wp2_with fail
  go_ret
  exact ⟨rfl, rfl⟩
abbrev cC (v : Int) : Obj := .cells #[.int .i64 v, .slice none 0 0] 36
theorem copied_any (v : Int) (w : World) : Calls Tryz.prog 46 #[.agg #[.int .i64 v, .slice none 0 0]] w fun e w' => e = .returned (.agg #[.int .i64 v, .slice none 0 0]) ∧ w.grownBy w' none := by
  go_enter Tryz.func46, Tryz.ntmps46
  go_wp2_with fail
  refine (cloneC_any _).mono ?_
  rintro e w1 ⟨rfl, rfl⟩
  go_wp2_with fail
  go_loop [12] (fun i => i = .int .i64 0) (fun _ => 0)
  case atStart => rfl
  case round =>
    subst hrel
    go_wp2_with fail
    exact bodyPost_ret (v := .agg #[.int .i64 v, .slice none 0 0]) (by simp [results, Tryz.results46, go_sem]) rfl ⟨rfl, (World.grownBy_alloc _ _ none).trans (World.grownBy_alloc _ _ none)⟩
theorem new_any (room at' : Int) (w : World) (h1 : 1 ≤ room) (h2 : room ≤ 1000) (h3 : 0 ≤ at') (h4 : at' ≤ 1099511627776) : Calls Tryz.prog 37 #[.int .i64 room, .int .i64 at'] w fun e w' => (∃ J, e = .returned (.tuple #[.pointer (some ⟨J, 0, none⟩), .int .i64 0]) ∧ JAt w.heap.size J w' room at' 0) ∧ w.grownBy w' none := by
  have HJ := Lib.hid (show JAt w.heap.size w.heap.size (w.alloc (.cells #[.int .i64 room, .int .i64 at', .slice none 0 0] 135)) room at' 0 from ⟨Nat.le_refl _, none, 0, heap_alloc_new _ _, Nat.le_refl _, Nat.zero_le _, .inl rfl⟩)
  have u1 : ¬ room < 1 := by omega
  have u2 : ¬ 1000 < room := by omega
  have u3 : ¬ at' < 0 := by omega
  have u4 : ¬ 1099511627776 < at' := by omega
  clear h1 h2 h3 h4
  go_enter Tryz.func37, Tryz.ntmps37
  go_wp2_with fail
  go_ret2
  exact ⟨⟨_, rfl, HJ.out⟩, World.grownBy_alloc _ _ none⟩
theorem end_any (J : Nat) (w : World) (room en : Int) (a : Option Addr) (n cap : Nat) (h : Jn J w room en a n cap) : Calls Tryz.prog 48 #[.pointer (some ⟨J, 0, none⟩)] w fun e w' => e = .returned (.int .i64 en) ∧ w = w' := by
  obtain ⟨c0, c1, c2, f0, f1, f2⟩ := h.cells
  clear h
  go_enter Tryz.func48, Tryz.ntmps48
  go_wp2_with fail
  go_ret
  exact ⟨rfl, rfl⟩
theorem horizon_any (J : Nat) (w : World) (room en : Int) (a : Option Addr) (n cap : Nat) (h : Jn J w room en a n cap) (h0 : 0 ≤ en) (h1 : en ≤ 1099511627776) (hn : n ≤ 1000000) : Calls Tryz.prog 28 #[.pointer (some ⟨J, 0, none⟩)] w fun e w' => e = .returned (.int .i64 (en - n)) ∧ ∃ k, w' = w.drewN k := by
  obtain ⟨c0, c1, c2, f0, f1, f2⟩ := h.cells
  have e1 : IntKind.i64.wrap (en - n) = en - n := by rw [IntKind.wrap_i64]; omega
  clear h h0 h1 hn
  go_enter Tryz.func28, Tryz.ntmps28
  go_wp2_with fail
  go_quiet (fail)
  go_wp2_with fail
  go_ret
  exact ⟨rfl, _, rfl⟩
end Go.Proofs.YtnfpomjcofhppaaGreatDoor
namespace Go.Proofs.YtnfpomjcofhppaaGreatDoor
open Go.RowKit

def exCols : List Cl := [⟨⟨#[97]⟩, 2, false⟩, ⟨⟨#[98]⟩, 3, true⟩]
theorem ex_cols (w : World) (T : TypeId) : ColsAt (w.alloc (.cells #[.string ⟨#[97]⟩, .int .i64 2, .bool false, .string ⟨#[98]⟩, .int .i64 3, .bool true] T)).heap.size (w.alloc (.cells #[.string ⟨#[97]⟩, .int .i64 2, .bool false, .string ⟨#[98]⟩, .int .i64 3, .bool true] T)) (some ⟨w.heap.size, 0, none⟩) exCols := by
  have e := heap_alloc_new w (.cells #[.string ⟨#[97]⟩, .int .i64 2, .bool false, .string ⟨#[98]⟩, .int .i64 3, .bool true] T)
  refine ⟨by decide, .inr ⟨w.heap.size, 0, rfl, by simp, fun i hi => ?_⟩⟩
  have hi' : i < 2 := hi
  rw [cell_of_row _ _ (0 + i * 3) _ _ _ e, cell_of_row _ _ (0 + i * 3 + 1) _ _ _ e, cell_of_row _ _ (0 + i * 3 + 2) _ _ _ e]
  obtain rfl | rfl : i = 0 ∨ i = 1 := by omega
  all_goals exact ⟨rfl, rfl, rfl⟩
def exTab (a : Option Addr) : Tb := ⟨⟨#[116]⟩, a, 2, exCols, 1⟩
theorem ex_good (a : Option Addr) : ∀ i, i < [exTab a].length → TabGood [exTab a] i ([exTab a].getD i default) := by
  intro i hi
  obtain rfl : i = 0 := by simpa using hi
  refine ⟨by decide, (show 1 ≤ exCols.length by decide), (show exCols.length ≤ 8 by decide), (show nameB ⟨#[116]⟩ = true by decide +kernel), (show (1 : Int) ≤ 1 by decide), (show (1 : Int) ≤ exCols.length by decide), fun j hj => ?_, fun j hj => by omega, fun i hi j hj => ?_, (show exCols.length ≤ 2 by decide)⟩
  · have hj' : j < 2 := hj
    obtain rfl | rfl : j = 0 ∨ j = 1 := by omega
    · exact ⟨(show nameB ⟨#[97]⟩ = true by decide +kernel), .inr (.inl rfl), fun _ => rfl⟩
    · exact ⟨(show nameB ⟨#[98]⟩ = true by decide +kernel), .inr (.inr rfl), fun h => by simp [exTab] at h⟩
  · have hi' : i < 2 := hi
    obtain ⟨rfl, rfl⟩ : i = 1 ∧ j = 0 := by omega
    exact (show ((⟨#[97]⟩ : ByteArray).toList == (⟨#[98]⟩ : ByteArray).toList) = false by decide +kernel)
theorem ex_fits : Fits exCols [⟨2, 1, ⟨#[]⟩⟩, ⟨0, 0, ⟨#[]⟩⟩] ∧ ¬ Fits exCols [⟨0, 0, ⟨#[]⟩⟩, ⟨0, 0, ⟨#[]⟩⟩] := by
  refine ⟨⟨rfl, fun i hi => ?_⟩, fun h => ?_⟩
  · have hi' : i < 2 := hi
    obtain rfl | rfl : i = 0 ∨ i = 1 := by omega
    · decide +kernel
    · decide +kernel
  · have := h.2 0 (by decide)
    revert this
    decide +kernel
theorem row2_at (w : World) (T : TypeId) (x y : Vv) : VvAt (w.alloc (.cells #[.int .i64 x.k, .int .i64 x.n, .string x.s, .int .i64 y.k, .int .i64 y.n, .string y.s] T)).heap.size (w.alloc (.cells #[.int .i64 x.k, .int .i64 x.n, .string x.s, .int .i64 y.k, .int .i64 y.n, .string y.s] T)) (some ⟨w.heap.size, 0, none⟩) [x, y] := by
  have e := heap_alloc_new w (.cells #[.int .i64 x.k, .int .i64 x.n, .string x.s, .int .i64 y.k, .int .i64 y.n, .string y.s] T)
  refine ⟨by simp, .inr ⟨w.heap.size, 0, rfl, by simp, fun i hi => ?_⟩⟩
  have hi' : i < 2 := hi
  rw [cell_of_row _ _ (0 + i * 3) _ _ _ e, cell_of_row _ _ (0 + i * 3 + 1) _ _ _ e, cell_of_row _ _ (0 + i * 3 + 2) _ _ _ e]
  obtain rfl | rfl : i = 0 ∨ i = 1 := by omega
  all_goals exact ⟨rfl, rfl, rfl⟩
end Go.Proofs.YtnfpomjcofhppaaGreatDoor
namespace Go.Proofs.YtnfpomjcofhppaaGreatDoor
open Go.RowKit Go.Extern.Stop Go.Stop Go.Extern

theorem hasUnwrapW (p : Value) (w : World) : (Instr.typeAssert (.iface 132 p) 90 159 true).run Tryz.prog w = .ok (.tuple #[.iface 132 p, .bool true]) w := run_typeAssert_hasB Tryz.underlying159 (by kernel_rfl) p 90 w
theorem methodUnwrapW (h : Value) (w : World) : (Go.method 347 132 h "Unwrap").run Tryz.prog w = .ok (141, h) w := by kernel_rfl
set_option maxHeartbeats 8000000 in
theorem as_wrapR (N : ByteArray) (pl x : Int) (t G : Nat) (o0 : Value) (w : World) (hE : ErrT G w) (ht0 : w.cell? ⟨t, 0, none⟩ = some o0) (hf0 : w.frozen? ⟨t, 0, none⟩ = false) :
    Calls Tryz.prog 24 #[.iface 132 (.agg #[.string N, .int .i64 pl, .iface 87 (.int .i64 x)]), .iface 92 (.pointer (some ⟨t, 0, none⟩))] w fun ev w' => ev = .returned (.bool true) ∧ HitR w t x w' := by
  have hg := hE.2
  have h6 := @run_callFunc_extern Tryz.prog 40 _ (fun args => ReflectliteValue.unpack (args.getD 0 (.tuple #[]))) Tryz.func40 (by kernel_rfl) (by kernel_rfl) (by kernel_rfl) (by kernel_rfl)
  have h7 := @run_callFunc_extern Tryz.prog 41 _ (ReflectliteValue.methodAny (ReflectliteValue.valueError "reflectlite.Value.Type" 0) (fun t _ _ _ => ReflectliteType.toType t)) Tryz.func41 (by kernel_rfl) (by kernel_rfl) (by kernel_rfl) (by kernel_rfl)
  have h8 := @run_callFunc_extern Tryz.prog 42 _ (ReflectliteValue.method (ReflectliteValue.valueError "reflectlite.Value.IsNil" 0) ReflectliteValue.isNil) Tryz.func42 (by kernel_rfl) (by kernel_rfl) (by kernel_rfl) (by kernel_rfl)
  have h27 := @run_callFunc_extern Tryz.prog 132 _ (ReflectliteType.abiMethod fun t => do pure (.int .u8 (← Rtype.kind t))) Tryz.func132 (by kernel_rfl) (by kernel_rfl) (by kernel_rfl) (by kernel_rfl)
  have h37 := @run_callFunc_extern Tryz.prog 147 _ (ReflectliteType.method ReflectliteType.elem) Tryz.func147 (by kernel_rfl) (by kernel_rfl) (by kernel_rfl) (by kernel_rfl)
  have h38 := @run_callFunc_extern Tryz.prog 148 _ (ReflectliteType.relation "Implements" ReflectliteType.implements_) Tryz.func148 (by kernel_rfl) (by kernel_rfl) (by kernel_rfl) (by kernel_rfl)
  have h10 := @run_callFunc_extern Tryz.prog 59 _ ReflectliteType.typeOf Tryz.func59 (by kernel_rfl) (by kernel_rfl) (by kernel_rfl) (by kernel_rfl)
  have h35 := @run_callFunc_extern Tryz.prog 145 _ (ReflectliteType.relation "AssignableTo" ReflectliteType.assignableTo) Tryz.func145 (by kernel_rfl) (by kernel_rfl) (by kernel_rfl) (by kernel_rfl)
  have h11 := @run_callFunc_extern Tryz.prog 60 _ (ReflectliteValue.method (ReflectliteValue.valueError "reflectlite.Value.Elem" 0) ReflectliteValue.elem) Tryz.func60 (by kernel_rfl) (by kernel_rfl) (by kernel_rfl) (by kernel_rfl)
  have h12 := @run_callFunc_extern Tryz.prog 61 _ ReflectliteValue.set Tryz.func61 (by kernel_rfl) (by kernel_rfl) (by kernel_rfl) (by kernel_rfl)
  have tO := typeOfER
  have mA := methodAssignableTo
  have a25 := assignER
  have v25 := valueOfER
  have f6 := valueOfPR
  have f7 := typePR
  have mK := methodKind
  have mE := methodElem
  have mI := methodImplements
  have k27 := kindPR
  have k25 := kindER
  have e27 := elemPR
  have i25 := implER
  have tW := typeOfEW
  have aW := assignEW
  have lW := lacksAsW
  have uW := hasUnwrapW
  have mU := methodUnwrapW
  have n8 := isNilPR ⟨w.heap.size, 0, none⟩ ⟨t, 0, none⟩ ((w.alloc (.cells #[.pointer (some ⟨t, 0, none⟩)] 92)).alloc (.cells #[.pointer (some ⟨10, 92, none⟩), .pointer (some ⟨w.heap.size, 0, none⟩), .int .u64 150] 120)) (by simp)
  have hlt : 0 < w.heap.size := World.block_lt_of_cell? w _ hg
  have hg2 : ((w.alloc (.cells #[.pointer (some ⟨t, 0, none⟩)] 92)).alloc (.cells #[.pointer (some ⟨10, 92, none⟩), .pointer (some ⟨w.heap.size, 0, none⟩), .int .u64 150] 120)).cell? ⟨0, 0, none⟩ = some (.iface 151 (.agg #[.pointer (some ⟨10, 90, none⟩)])) := by
    rw [World.cell?_alloc_lt _ _ ⟨0, 0, none⟩ (by first | (simp; done) | (simp; omega)), World.cell?_alloc_lt _ _ ⟨0, 0, none⟩ hlt]; exact hg
  have htl : t < w.heap.size := World.block_lt_of_cell? w _ ht0
  have e1 : (w.alloc (.cells #[.pointer (some ⟨t, 0, none⟩)] 92)).cell? ⟨w.heap.size, 0, none⟩ = some (.pointer (some ⟨t, 0, none⟩)) := cell_of_row _ _ 0 _ _ _ (heap_alloc_new w _)
  have g14 : (w.alloc (.cells #[.pointer (some ⟨t, 0, none⟩)] 92)).grownBy ((((w.alloc (.cells #[.pointer (some ⟨t, 0, none⟩)] 92)).alloc (.cells #[.pointer (some ⟨10, 92, none⟩), .pointer (some ⟨w.heap.size, 0, none⟩), .int .u64 150] 120)).alloc (.cells #[.pointer (some ⟨10, 92, none⟩), .pointer (some ⟨w.heap.size, 0, none⟩), .int .u64 150] 120)).alloc (.cells #[.string N, .int .i64 pl, .iface 87 (.int .i64 x)] 132)) none := ((World.grownBy_alloc _ _ _).trans (World.grownBy_alloc _ _ _)).trans (World.grownBy_alloc _ _ _)
  have el := elemVR ⟨w.heap.size, 0, none⟩ ⟨t, 0, none⟩ ((((w.alloc (.cells #[.pointer (some ⟨t, 0, none⟩)] 92)).alloc (.cells #[.pointer (some ⟨10, 92, none⟩), .pointer (some ⟨w.heap.size, 0, none⟩), .int .u64 150] 120)).alloc (.cells #[.pointer (some ⟨10, 92, none⟩), .pointer (some ⟨w.heap.size, 0, none⟩), .int .u64 150] 120)).alloc (.cells #[.string N, .int .i64 pl, .iface 87 (.int .i64 x)] 132)) (g14.cell e1 (by simp))
  obtain ⟨W5, hW5⟩ : ∃ W5, W5 = (((((w.alloc (.cells #[.pointer (some ⟨t, 0, none⟩)] 92)).alloc (.cells #[.pointer (some ⟨10, 92, none⟩), .pointer (some ⟨w.heap.size, 0, none⟩), .int .u64 150] 120)).alloc (.cells #[.pointer (some ⟨10, 92, none⟩), .pointer (some ⟨w.heap.size, 0, none⟩), .int .u64 150] 120)).alloc (.cells #[.string N, .int .i64 pl, .iface 87 (.int .i64 x)] 132)).alloc (.cells #[.int .i64 x] 87)) := ⟨_, rfl⟩
  have gr : w.grownBy W5 none := by rw [hW5]; exact ((((World.grownBy_alloc _ _ _).trans (World.grownBy_alloc _ _ _)).trans (World.grownBy_alloc _ _ _)).trans (World.grownBy_alloc _ _ _)).trans (World.grownBy_alloc _ _ _)
  have e5 := heap_alloc_new ((((w.alloc (.cells #[.pointer (some ⟨t, 0, none⟩)] 92)).alloc (.cells #[.pointer (some ⟨10, 92, none⟩), .pointer (some ⟨w.heap.size, 0, none⟩), .int .u64 150] 120)).alloc (.cells #[.pointer (some ⟨10, 92, none⟩), .pointer (some ⟨w.heap.size, 0, none⟩), .int .u64 150] 120)).alloc (.cells #[.string N, .int .i64 pl, .iface 87 (.int .i64 x)] 132)) (.cells #[.int .i64 x] 87)
  have sz4 : ((((w.alloc (.cells #[.pointer (some ⟨t, 0, none⟩)] 92)).alloc (.cells #[.pointer (some ⟨10, 92, none⟩), .pointer (some ⟨w.heap.size, 0, none⟩), .int .u64 150] 120)).alloc (.cells #[.pointer (some ⟨10, 92, none⟩), .pointer (some ⟨w.heap.size, 0, none⟩), .int .u64 150] 120)).alloc (.cells #[.string N, .int .i64 pl, .iface 87 (.int .i64 x)] 132)).heap.size = w.heap.size + 1 + 1 + 1 + 1 := by simp
  rw [sz4, ← hW5] at e5
  have st := setER t (w.heap.size + 1 + 1 + 1 + 1) x o0 W5 (cell_of_row _ _ 0 _ _ _ e5) (gr.cell ht0 (by simp)) ((gr.frozen_far ⟨t, 0, none⟩ htl (by simp)).trans hf0)
  have GR := Lib.hid gr
  have HW5 := Lib.hid hW5
  rw [hW5] at st
  clear hW5 gr ht0 hf0 e5 sz4 g14 e1
  go_enter Tryz.func24, Tryz.ntmps24
  go_wp2
  refine wp_loop_rounds 2 ?_
  rw [rounds_succ]
  go_wp2
  rw [rounds_succ]
  go_wp2
  go_ret
  exact ⟨rfl, W5, GR.out, by rw [HW5.out]⟩
end Go.Proofs.YtnfpomjcofhppaaGreatDoor
