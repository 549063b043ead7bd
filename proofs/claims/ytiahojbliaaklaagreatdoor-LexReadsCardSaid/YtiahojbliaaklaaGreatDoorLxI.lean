/- errors.Is at a fault that wraps one of lex's errors; the contract of fault's number. -/
import Derived.Test.YtiahojbliaaklaaGreatDoorLxE
import Derived.LaidEql
import Derived.Stop.Asserts
import Derived.RowKitTokens
namespace Go.Proofs.YtiahojbliaaklaaGreatDoor
open Go.RowKit Go.Extern.Stop Go.Stop Go.Extern

theorem isTypeOfL (v : Value) (w : World) : (Extern.ReflectliteType.typeOf #[.iface 120 v]).run Tryz.prog w = .ok (.iface 71 (.agg #[.pointer (some ⟨11, 120, none⟩)])) w := by kernel_rfl
theorem isComparableL (w : World) : ((Extern.ReflectliteType.method fun t => do Go.Extern.Rtype.noPackHeld "Comparable" t; (fun a => Value.bool a.comparable) <$> typeInfo t) #[.agg #[.pointer (some ⟨11, 120, none⟩)]]).run Tryz.prog w = .ok (.bool true) w := by kernel_rfl
theorem isMethodComparableL (v : Value) (w : World) : (Go.method 266 71 v "Comparable").run Tryz.prog w = .ok (110, v) w := by kernel_rfl
theorem isCompL : (Tryz.prog.info? 120).map (·.comparable) = some true := by kernel_rfl
theorem isSizeL : (Tryz.prog.info? 122).map (·.size) = some 1 := by kernel_rfl
theorem noIsE (v : Value) (xT : TypeId) (w : World) : (Instr.typeAssert (.iface 120 v) xT 94 true).run Tryz.prog w = .ok (.tuple #[.nilIface, .bool false]) w := run_typeAssert_lacksB Tryz.underlying94 (by kernel_rfl) (by kernel_rfl) v xT w
theorem noUnwrapE (v : Value) (xT : TypeId) (w : World) : (Instr.typeAssert (.iface 120 v) xT 79 true).run Tryz.prog w = .ok (.tuple #[.nilIface, .bool false]) w := run_typeAssert_lacksB Tryz.underlying79 (by kernel_rfl) (by kernel_rfl) v xT w
theorem noUnwrapsE (v : Value) (xT : TypeId) (w : World) : (Instr.typeAssert (.iface 120 v) xT 81 true).run Tryz.prog w = .ok (.tuple #[.nilIface, .bool false]) w := run_typeAssert_lacksB Tryz.underlying81 (by kernel_rfl) (by kernel_rfl) v xT w
theorem noIsF (v : Value) (xT : TypeId) (w : World) : (Instr.typeAssert (.iface 38 v) xT 94 true).run Tryz.prog w = .ok (.tuple #[.nilIface, .bool false]) w := run_typeAssert_lacksB Tryz.underlying94 (by kernel_rfl) (by kernel_rfl) v xT w
theorem hasUnwrapF (v : Value) (xT : TypeId) (w : World) : (Instr.typeAssert (.iface 38 v) xT 79 true).run Tryz.prog w = .ok (.tuple #[.iface 38 v, .bool true]) w := run_typeAssert_hasB Tryz.underlying79 (by kernel_rfl) v xT w
theorem methodUnwrapF (v : Value) (w : World) : (Go.method 266 38 v "Unwrap").run Tryz.prog w = .ok (104, v) w := by kernel_rfl
theorem heap_lt {w : World} {b : Nat} {o : Obj} (h : w.heap[b]? = some o) : b < w.heap.size := by
  rcases Nat.lt_or_ge b w.heap.size with h1 | h1
  · exact h1
  · rw [Array.getElem?_eq_none h1] at h; cases h
set_option maxRecDepth 100000 in
set_option maxHeartbeats 8000000 in
/-- errors.Is(fault, x), where the fault wraps x. -/
theorem is_fault_same (x : Int) (b : Addr) (w : World) :
    Calls Tryz.prog 17 #[.iface 38 (.agg #[.int .i64 x, .iface 120 (.pointer (some b))]), .iface 120 (.pointer (some b))] w fun e w' => e = .returned (.bool true) ∧ w.grownBy w' none := by
  obtain ⟨i, hi, hcmp⟩ := Option.map_eq_some_iff.1 isCompL
  obtain ⟨j, hj, hjs⟩ := Option.map_eq_some_iff.1 isSizeL
  have h8 := @run_callFunc_extern Tryz.prog 28 _ Extern.ReflectliteType.typeOf Tryz.func28 (by kernel_rfl) (by kernel_rfl) (by kernel_rfl) (by kernel_rfl)
  have h32 := @run_callFunc_extern Tryz.prog 110 _ (Extern.ReflectliteType.method fun t => do Go.Extern.Rtype.noPackHeld "Comparable" t; pure (.bool (← typeInfo t).comparable)) Tryz.func110 (by kernel_rfl) (by kernel_rfl) (by kernel_rfl) (by kernel_rfl)
  have tT := isTypeOfL
  have cT := isComparableL
  have mR := isMethodComparableL
  have nE := noIsE
  have uE := noUnwrapE
  have vE := noUnwrapsE
  have nW := noIsF
  have uW := hasUnwrapF
  have mU := methodUnwrapF
  have heq := fun w => run_eql_iface_ptr_same (P := Tryz.prog) w b Tryz.underlying34 Tryz.underlying120 hi hcmp hj
  have hty := fun w => run_eql_iface_types (P := Tryz.prog) 38 120 (.agg #[.int .i64 x, .iface 120 (.pointer (some b))]) (.pointer (some b)) Tryz.underlying34 (by decide) w
  go_enter Tryz.func17, Tryz.ntmps17
  go_wp2
  refine wp_loop_rounds 2 ?_
  rw [rounds_succ]
  go_wp2
  rw [rounds_succ]
  go_wp2
  go_ret
  exact ⟨rfl, by first | exact World.grownBy_alloc _ _ _ | exact (World.grownBy_alloc _ _ _).trans (World.grownBy_alloc _ _ _)⟩
set_option maxRecDepth 100000 in
set_option maxHeartbeats 8000000 in
/-- errors.Is(fault, x), where the fault wraps another one. -/
theorem is_fault_other (x : Int) (a b : Addr) (w : World) (hne : a ≠ b) (ha : ∃ c t, w.heap[a.block]? = some (.cells c t (0, 0))) (hb : ∃ c t, w.heap[b.block]? = some (.cells c t (0, 0))) :
    Calls Tryz.prog 17 #[.iface 38 (.agg #[.int .i64 x, .iface 120 (.pointer (some a))]), .iface 120 (.pointer (some b))] w fun e w' => e = .returned (.bool false) ∧ w.grownBy w' none := by
  obtain ⟨i, hi, hcmp⟩ := Option.map_eq_some_iff.1 isCompL
  obtain ⟨j, hj, hjs⟩ := Option.map_eq_some_iff.1 isSizeL
  have h8 := @run_callFunc_extern Tryz.prog 28 _ Extern.ReflectliteType.typeOf Tryz.func28 (by kernel_rfl) (by kernel_rfl) (by kernel_rfl) (by kernel_rfl)
  have h32 := @run_callFunc_extern Tryz.prog 110 _ (Extern.ReflectliteType.method fun t => do Go.Extern.Rtype.noPackHeld "Comparable" t; pure (.bool (← typeInfo t).comparable)) Tryz.func110 (by kernel_rfl) (by kernel_rfl) (by kernel_rfl) (by kernel_rfl)
  have tT := isTypeOfL
  have cT := isComparableL
  have mR := isMethodComparableL
  have nE := noIsE
  have uE := noUnwrapE
  have vE := noUnwrapsE
  have nW := noIsF
  have uW := hasUnwrapF
  have mU := methodUnwrapF
  obtain ⟨ca, ta, ha⟩ := ha
  obtain ⟨cb, tb, hb⟩ := hb
  have heq : ∀ o : Obj, (binOp .eql 34 (.iface 120 (.pointer (some a))) (.iface 120 (.pointer (some b)))).run Tryz.prog (w.alloc o) = .ok (.bool false) (w.alloc o) := fun o =>
    run_eql_iface_ptr_other (P := Tryz.prog) (w.alloc o) Tryz.underlying34 Tryz.underlying120 hi hcmp hj (by rw [hjs]; decide) hne (((World.grownBy_alloc w o none).block _ (heap_lt ha) (by simp)).trans ha) (((World.grownBy_alloc w o none).block _ (heap_lt hb) (by simp)).trans hb)
  clear ha hb hne
  have hty := fun w => run_eql_iface_types (P := Tryz.prog) 38 120 (.agg #[.int .i64 x, .iface 120 (.pointer (some a))]) (.pointer (some b)) Tryz.underlying34 (by decide) w
  go_enter Tryz.func17, Tryz.ntmps17
  go_wp2
  refine wp_loop_rounds 2 ?_
  rw [rounds_succ]
  go_wp2
  rw [rounds_succ]
  go_wp2
  go_ret
  exact ⟨rfl, by first | exact World.grownBy_alloc _ _ _ | exact (World.grownBy_alloc _ _ _).trans (World.grownBy_alloc _ _ _)⟩
/-- The pointer of an error's number. -/
def errA (n g m l : Addr) : Nat → Addr
  | 1 => g
  | 3 => m
  | 13 => l
  | _ => n
theorem errV_of (n g m l : Addr) (c : Nat) (hc : c = 1 ∨ c = 3 ∨ c = 10 ∨ c = 13) : errV n g m l c = .iface 120 (.pointer (some (errA n g m l c))) := by
  rcases hc with rfl | rfl | rfl | rfl <;> rfl
theorem box2X (w : World) (v0 v1 : Value) (T : TypeId) : (w.alloc (.cells #[v0, v1] T)).cell? ⟨w.heap.size, 0, none⟩ = some v0 ∧ (w.alloc (.cells #[v0, v1] T)).cell? ⟨w.heap.size, 1, none⟩ = some v1 :=
  ⟨cell_of_row _ _ 0 _ _ _ (heap_alloc_new _ _), cell_of_row _ _ 1 _ _ _ (heap_alloc_new _ _)⟩
set_option maxHeartbeats 1600000 in
theorem faultNo_any (G : Nat) (n g m l : Addr) (x : Int) (c : Nat) (hc : c = 1 ∨ c = 3 ∨ c = 10 ∨ c = 13) (w : World) (hE : LxEnv G n g m l w) :
    Calls Tryz.prog 10 #[.agg #[.int .i64 x, errV n g m l c]] w fun e w' => e = .returned (.int .i64 (c : Nat)) ∧ w.grownBy w' none := by
  rw [errV_of n g m l c hc]
  have HS := Lib.hid (is_fault_same x (errA n g m l c))
  have HE := Lib.hid hE
  have HO : Hid (∀ b W, w.grownBy W none → errA n g m l c ≠ b → (b = g ∨ b = m ∨ b = l) → Calls Tryz.prog 17 #[.iface 38 (.agg #[.int .i64 x, .iface 120 (.pointer (some (errA n g m l c)))]), .iface 120 (.pointer (some b))] W fun e w' => e = .returned (.bool false) ∧ W.grownBy w' none) := Lib.hid fun b W hW hne hb => by
    have h := hE.keep hW
    refine is_fault_other x _ b W hne ?_ ?_
    · rcases hc with rfl | rfl | rfl | rfl
      · exact h.sg.blk
      · exact h.sm.blk
      · exact h.sn.blk
      · exact h.sl.blk
    · rcases hb with rfl | rfl | rfl
      · exact h.sg.blk
      · exact h.sm.blk
      · exact h.sl.blk
  have N1 : c ≠ 1 → errA n g m l c ≠ g := fun h => by
    rcases hc with rfl | rfl | rfl | rfl
    · exact absurd rfl h
    · exact hE.sm.ne hE.sg (by decide)
    · exact hE.sn.ne hE.sg (by decide)
    · exact hE.sl.ne hE.sg (by decide)
  have N3 : c ≠ 3 → errA n g m l c ≠ m := fun h => by
    rcases hc with rfl | rfl | rfl | rfl
    · exact hE.sg.ne hE.sm (by decide)
    · exact absurd rfl h
    · exact hE.sn.ne hE.sm (by decide)
    · exact hE.sl.ne hE.sm (by decide)
  have N13 : c ≠ 13 → errA n g m l c ≠ l := fun h => by
    rcases hc with rfl | rfl | rfl | rfl
    · exact hE.sg.ne hE.sl (by decide)
    · exact hE.sm.ne hE.sl (by decide)
    · exact hE.sn.ne hE.sl (by decide)
    · exact absurd rfl h
  have M1 := Lib.hid N1
  have M3 := Lib.hid N3
  have M13 := Lib.hid N13
  clear N1 N3 N13 hE
  have B := Lib.hid (box2X w (.int .i64 x) (.iface 120 (.pointer (some (errA n g m l c)))) 38)
  have E1 := (HE.out.keep (World.grownBy_alloc w (.cells #[.int .i64 x, .iface 120 (.pointer (some (errA n g m l c)))] 38) none))
  have cg := E1.sg.var
  have K0 := Lib.hid (World.grownBy_alloc w (.cells #[.int .i64 x, .iface 120 (.pointer (some (errA n g m l c)))] 38) none)
  have A1 : Hid (c = 1 → errA n g m l c = g) := Lib.hid fun h => by subst h; rfl
  have A3 : Hid (c = 3 → errA n g m l c = m) := Lib.hid fun h => by subst h; rfl
  have A13 : Hid (c = 13 → errA n g m l c = l) := Lib.hid fun h => by subst h; rfl
  generalize errA n g m l c = a at *
  by_cases h1 : c = 1
  · obtain rfl := A1.out h1
    subst h1
    clear E1 hc
    go_enter Tryz.func10, Tryz.ntmps10
    go_wp2_with fail
    refine (HS.out _).mono ?_
    rintro e w1 ⟨rfl, hg⟩
    have K1 := Lib.hid (K0.out.trans hg)
    clear hg
    go_wp2_with fail
    go_ret
    exact ⟨rfl, K1.out⟩
  have H1 := Lib.hid (HO.out g _ K0.out (M1.out h1) (.inl rfl))
  by_cases h3 : c = 3
  · obtain rfl := A3.out h3
    subst h3
    clear E1 hc h1
    go_enter Tryz.func10, Tryz.ntmps10
    go_wp2_with fail
    refine (H1.out).mono ?_
    rintro e w1 ⟨rfl, hg⟩
    have K1 := Lib.hid (K0.out.trans hg)
    have b0 := hg.cell B.out.1 (by simp)
    have b1 := hg.cell B.out.2 (by simp)
    have cm := (HE.out.keep K1.out).sm.var
    clear hg
    go_wp2_with fail
    refine (HS.out _).mono ?_
    rintro e w2 ⟨rfl, hg⟩
    have K2 := Lib.hid (K1.out.trans hg)
    clear hg
    go_wp2_with fail
    go_ret
    exact ⟨rfl, K2.out⟩
  by_cases h13 : c = 13
  · obtain rfl := A13.out h13
    subst h13
    have HO3 := Lib.hid (fun W hW => HO.out m W hW (M3.out h3) (.inr (.inl rfl)))
    clear E1 hc h1 h3
    go_enter Tryz.func10, Tryz.ntmps10
    go_wp2_with fail
    refine (H1.out).mono ?_
    rintro e w1 ⟨rfl, hg⟩
    have K1 := Lib.hid (K0.out.trans hg)
    have b0 := hg.cell B.out.1 (by simp)
    have b1 := hg.cell B.out.2 (by simp)
    have cm := (HE.out.keep K1.out).sm.var
    clear hg
    go_wp2_with fail
    refine (HO3.out _ K1.out).mono ?_
    rintro e w2 ⟨rfl, hg⟩
    have K2 := Lib.hid (K1.out.trans hg)
    have d0 := hg.cell b0 (by simp)
    have d1 := hg.cell b1 (by simp)
    have cl := (HE.out.keep K2.out).sl.var
    clear hg b0 b1 cm
    go_wp2_with fail
    refine (HS.out _).mono ?_
    rintro e w3 ⟨rfl, hg⟩
    have K3 := Lib.hid (K2.out.trans hg)
    clear hg
    go_wp2_with fail
    go_ret
    exact ⟨rfl, K3.out⟩
  · obtain rfl : c = 10 := by omega
    have HO3 := Lib.hid (fun W hW => HO.out m W hW (M3.out h3) (.inr (.inl rfl)))
    have HO13 := Lib.hid (fun W hW => HO.out l W hW (M13.out h13) (.inr (.inr rfl)))
    clear E1 hc h1 h3 h13
    go_enter Tryz.func10, Tryz.ntmps10
    go_wp2_with fail
    refine (H1.out).mono ?_
    rintro e w1 ⟨rfl, hg⟩
    have K1 := Lib.hid (K0.out.trans hg)
    have b0 := hg.cell B.out.1 (by simp)
    have b1 := hg.cell B.out.2 (by simp)
    have cm := (HE.out.keep K1.out).sm.var
    clear hg
    go_wp2_with fail
    refine (HO3.out _ K1.out).mono ?_
    rintro e w2 ⟨rfl, hg⟩
    have K2 := Lib.hid (K1.out.trans hg)
    have d0 := hg.cell b0 (by simp)
    have d1 := hg.cell b1 (by simp)
    have cl := (HE.out.keep K2.out).sl.var
    clear hg b0 b1 cm
    go_wp2_with fail
    refine (HO13.out _ K2.out).mono ?_
    rintro e w3 ⟨rfl, hg⟩
    have K3 := Lib.hid (K2.out.trans hg)
    clear hg
    go_wp2_with fail
    go_ret
    exact ⟨rfl, K3.out⟩
end Go.Proofs.YtiahojbliaaklaaGreatDoor
