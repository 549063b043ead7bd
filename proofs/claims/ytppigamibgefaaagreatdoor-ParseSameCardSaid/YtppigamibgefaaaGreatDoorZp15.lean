/- tree's walk: how it goes down. The contract of lex's Word. (Laid by tools/gen_lxword.py.) errors.Is at a fault that wraps one of lex's errors; the contract of fault's number. -/
import Derived.Test.YtppigamibgefaaaGreatDoorZp13
import Derived.Test.YtppigamibgefaaaGreatDoorZp14
import Derived.LaidEql
import Derived.Stop.Asserts
import Derived.RowKitTokens
namespace Go.Proofs.YtppigamibgefaaaGreatDoor
open Go.RowKit

theorem grown_only {w w' : World} (h : w.grownBy w' none) : Only (fun _ => False) w w' := ⟨h.os, h.tape, h.output, h.size, fun b hb _ => h.block b hb (by simp)⟩
theorem one_atT {w : World} {b : Nat} {u : Value} (h : w.cell? ⟨b, 0, none⟩ = some u) : ∀ j x, [u][j]? = some x → w.cell? ((⟨b, 0, none⟩ : Addr).add j) = some x := by
  intro j x hj
  match j, hj with
  | 0, hj => simp at hj; subst hj; exact h
theorem one_oneT (p : Ptr) : ∀ u ∈ [Value.pointer p], u.oneCell' = true := by
  intro u hu
  obtain rfl := List.mem_singleton.1 hu
  rfl
end Go.Proofs.YtppigamibgefaaaGreatDoor
namespace Go.Proofs.YtppigamibgefaaaGreatDoor
open Go.RowKit

set_option maxHeartbeats 3200000 in
theorem word_any (s : ByteArray) (w : World) : Calls Tryz.prog 175 #[.string s] w fun e w' => e = .returned (.bool (wordB s.data.toList)) ∧ w = w' := by
  by_cases h0 : s.data.toList = [83, 69, 76, 69, 67, 84]
  · have hw : wordB s.data.toList = true := by rw [h0]; decide
    rw [hw]
    have t0 := bytes_is h0
    clear hw h0
    go_enter Tryz.func175, Tryz.ntmps175
    go_wp2_with fail
    go_ret
    exact ⟨rfl, rfl⟩
  have t0 := bytes_not h0
  have H0 := Lib.hid h0
  clear h0
  by_cases h1 : s.data.toList = [70, 82, 79, 77]
  · have hw : wordB s.data.toList = true := by rw [h1]; decide
    rw [hw]
    have t1 := bytes_is h1
    clear hw h1
    go_enter Tryz.func175, Tryz.ntmps175
    go_wp2_with fail
    go_ret
    exact ⟨rfl, rfl⟩
  have t1 := bytes_not h1
  have H1 := Lib.hid h1
  clear h1
  by_cases h2 : s.data.toList = [87, 72, 69, 82, 69]
  · have hw : wordB s.data.toList = true := by rw [h2]; decide
    rw [hw]
    have t2 := bytes_is h2
    clear hw h2
    go_enter Tryz.func175, Tryz.ntmps175
    go_wp2_with fail
    go_ret
    exact ⟨rfl, rfl⟩
  have t2 := bytes_not h2
  have H2 := Lib.hid h2
  clear h2
  by_cases h3 : s.data.toList = [71, 82, 79, 85, 80]
  · have hw : wordB s.data.toList = true := by rw [h3]; decide
    rw [hw]
    have t3 := bytes_is h3
    clear hw h3
    go_enter Tryz.func175, Tryz.ntmps175
    go_wp2_with fail
    go_ret
    exact ⟨rfl, rfl⟩
  have t3 := bytes_not h3
  have H3 := Lib.hid h3
  clear h3
  by_cases h4 : s.data.toList = [79, 82, 68, 69, 82]
  · have hw : wordB s.data.toList = true := by rw [h4]; decide
    rw [hw]
    have t4 := bytes_is h4
    clear hw h4
    go_enter Tryz.func175, Tryz.ntmps175
    go_wp2_with fail
    go_ret
    exact ⟨rfl, rfl⟩
  have t4 := bytes_not h4
  have H4 := Lib.hid h4
  clear h4
  by_cases h5 : s.data.toList = [66, 89]
  · have hw : wordB s.data.toList = true := by rw [h5]; decide
    rw [hw]
    have t5 := bytes_is h5
    clear hw h5
    go_enter Tryz.func175, Tryz.ntmps175
    go_wp2_with fail
    go_ret
    exact ⟨rfl, rfl⟩
  have t5 := bytes_not h5
  have H5 := Lib.hid h5
  clear h5
  by_cases h6 : s.data.toList = [76, 73, 77, 73, 84]
  · have hw : wordB s.data.toList = true := by rw [h6]; decide
    rw [hw]
    have t6 := bytes_is h6
    clear hw h6
    go_enter Tryz.func175, Tryz.ntmps175
    go_wp2_with fail
    go_ret
    exact ⟨rfl, rfl⟩
  have t6 := bytes_not h6
  have H6 := Lib.hid h6
  clear h6
  by_cases h7 : s.data.toList = [65, 83, 67]
  · have hw : wordB s.data.toList = true := by rw [h7]; decide
    rw [hw]
    have t7 := bytes_is h7
    clear hw h7
    go_enter Tryz.func175, Tryz.ntmps175
    go_wp2_with fail
    go_ret
    exact ⟨rfl, rfl⟩
  have t7 := bytes_not h7
  have H7 := Lib.hid h7
  clear h7
  by_cases h8 : s.data.toList = [68, 69, 83, 67]
  · have hw : wordB s.data.toList = true := by rw [h8]; decide
    rw [hw]
    have t8 := bytes_is h8
    clear hw h8
    go_enter Tryz.func175, Tryz.ntmps175
    go_wp2_with fail
    go_ret
    exact ⟨rfl, rfl⟩
  have t8 := bytes_not h8
  have H8 := Lib.hid h8
  clear h8
  by_cases h9 : s.data.toList = [65, 78, 68]
  · have hw : wordB s.data.toList = true := by rw [h9]; decide
    rw [hw]
    have t9 := bytes_is h9
    clear hw h9
    go_enter Tryz.func175, Tryz.ntmps175
    go_wp2_with fail
    go_ret
    exact ⟨rfl, rfl⟩
  have t9 := bytes_not h9
  have H9 := Lib.hid h9
  clear h9
  by_cases h10 : s.data.toList = [79, 82]
  · have hw : wordB s.data.toList = true := by rw [h10]; decide
    rw [hw]
    have t10 := bytes_is h10
    clear hw h10
    go_enter Tryz.func175, Tryz.ntmps175
    go_wp2_with fail
    go_ret
    exact ⟨rfl, rfl⟩
  have t10 := bytes_not h10
  have H10 := Lib.hid h10
  clear h10
  by_cases h11 : s.data.toList = [78, 79, 84]
  · have hw : wordB s.data.toList = true := by rw [h11]; decide
    rw [hw]
    have t11 := bytes_is h11
    clear hw h11
    go_enter Tryz.func175, Tryz.ntmps175
    go_wp2_with fail
    go_ret
    exact ⟨rfl, rfl⟩
  have t11 := bytes_not h11
  have H11 := Lib.hid h11
  clear h11
  by_cases h12 : s.data.toList = [73, 83]
  · have hw : wordB s.data.toList = true := by rw [h12]; decide
    rw [hw]
    have t12 := bytes_is h12
    clear hw h12
    go_enter Tryz.func175, Tryz.ntmps175
    go_wp2_with fail
    go_ret
    exact ⟨rfl, rfl⟩
  have t12 := bytes_not h12
  have H12 := Lib.hid h12
  clear h12
  by_cases h13 : s.data.toList = [73, 78]
  · have hw : wordB s.data.toList = true := by rw [h13]; decide
    rw [hw]
    have t13 := bytes_is h13
    clear hw h13
    go_enter Tryz.func175, Tryz.ntmps175
    go_wp2_with fail
    go_ret
    exact ⟨rfl, rfl⟩
  have t13 := bytes_not h13
  have H13 := Lib.hid h13
  clear h13
  by_cases h14 : s.data.toList = [66, 69, 84, 87, 69, 69, 78]
  · have hw : wordB s.data.toList = true := by rw [h14]; decide
    rw [hw]
    have t14 := bytes_is h14
    clear hw h14
    go_enter Tryz.func175, Tryz.ntmps175
    go_wp2_with fail
    go_ret
    exact ⟨rfl, rfl⟩
  have t14 := bytes_not h14
  have H14 := Lib.hid h14
  clear h14
  by_cases h15 : s.data.toList = [78, 85, 76, 76]
  · have hw : wordB s.data.toList = true := by rw [h15]; decide
    rw [hw]
    have t15 := bytes_is h15
    clear hw h15
    go_enter Tryz.func175, Tryz.ntmps175
    go_wp2_with fail
    go_ret
    exact ⟨rfl, rfl⟩
  have t15 := bytes_not h15
  have H15 := Lib.hid h15
  clear h15
  by_cases h16 : s.data.toList = [84, 82, 85, 69]
  · have hw : wordB s.data.toList = true := by rw [h16]; decide
    rw [hw]
    have t16 := bytes_is h16
    clear hw h16
    go_enter Tryz.func175, Tryz.ntmps175
    go_wp2_with fail
    go_ret
    exact ⟨rfl, rfl⟩
  have t16 := bytes_not h16
  have H16 := Lib.hid h16
  clear h16
  by_cases h17 : s.data.toList = [70, 65, 76, 83, 69]
  · have hw : wordB s.data.toList = true := by rw [h17]; decide
    rw [hw]
    have t17 := bytes_is h17
    clear hw h17
    go_enter Tryz.func175, Tryz.ntmps175
    go_wp2_with fail
    go_ret
    exact ⟨rfl, rfl⟩
  have t17 := bytes_not h17
  have H17 := Lib.hid h17
  clear h17
  by_cases h18 : s.data.toList = [67, 79, 85, 78, 84]
  · have hw : wordB s.data.toList = true := by rw [h18]; decide
    rw [hw]
    have t18 := bytes_is h18
    clear hw h18
    go_enter Tryz.func175, Tryz.ntmps175
    go_wp2_with fail
    go_ret
    exact ⟨rfl, rfl⟩
  have t18 := bytes_not h18
  have H18 := Lib.hid h18
  clear h18
  by_cases h19 : s.data.toList = [83, 85, 77]
  · have hw : wordB s.data.toList = true := by rw [h19]; decide
    rw [hw]
    have t19 := bytes_is h19
    clear hw h19
    go_enter Tryz.func175, Tryz.ntmps175
    go_wp2_with fail
    go_ret
    exact ⟨rfl, rfl⟩
  have t19 := bytes_not h19
  have H19 := Lib.hid h19
  clear h19
  by_cases h20 : s.data.toList = [77, 73, 78]
  · have hw : wordB s.data.toList = true := by rw [h20]; decide
    rw [hw]
    have t20 := bytes_is h20
    clear hw h20
    go_enter Tryz.func175, Tryz.ntmps175
    go_wp2_with fail
    go_ret
    exact ⟨rfl, rfl⟩
  have t20 := bytes_not h20
  have H20 := Lib.hid h20
  clear h20
  by_cases h21 : s.data.toList = [77, 65, 88]
  · have hw : wordB s.data.toList = true := by rw [h21]; decide
    rw [hw]
    have t21 := bytes_is h21
    clear hw h21
    go_enter Tryz.func175, Tryz.ntmps175
    go_wp2_with fail
    go_ret
    exact ⟨rfl, rfl⟩
  have t21 := bytes_not h21
  have H21 := Lib.hid h21
  clear h21
  have hw : wordB s.data.toList = false := by
    unfold wordB words
    simp only [List.contains_eq_mem, List.mem_cons, List.not_mem_nil, or_false, decide_eq_false_iff_not, not_or]
    exact ⟨H0.out, H1.out, H2.out, H3.out, H4.out, H5.out, H6.out, H7.out, H8.out, H9.out, H10.out, H11.out, H12.out, H13.out, H14.out, H15.out, H16.out, H17.out, H18.out, H19.out, H20.out, H21.out⟩
  rw [hw]
  clear hw
  go_enter Tryz.func175, Tryz.ntmps175
  go_wp2_with fail
  go_ret
  exact ⟨rfl, rfl⟩
end Go.Proofs.YtppigamibgefaaaGreatDoor
namespace Go.Proofs.YtppigamibgefaaaGreatDoor
open Go.RowKit Go.Extern.Stop Go.Stop Go.Extern

theorem isTypeOfL (v : Value) (w : World) : (Extern.ReflectliteType.typeOf #[.iface 291 v]).run Tryz.prog w = .ok (.iface 174 (.agg #[.pointer (some ⟨16, 291, none⟩)])) w := by kernel_rfl
theorem isComparableL (w : World) : ((Extern.ReflectliteType.method fun t => do Go.Extern.Rtype.noPackHeld "Comparable" t; (fun a => Value.bool a.comparable) <$> typeInfo t) #[.agg #[.pointer (some ⟨16, 291, none⟩)]]).run Tryz.prog w = .ok (.bool true) w := by kernel_rfl
theorem isMethodComparableL (v : Value) (w : World) : (Go.method 432 174 v "Comparable").run Tryz.prog w = .ok (257, v) w := by kernel_rfl
theorem isCompL : (Tryz.prog.info? 291).map (·.comparable) = some true := by kernel_rfl
theorem isSizeL : (Tryz.prog.info? 293).map (·.size) = some 1 := by kernel_rfl
theorem noIsE (v : Value) (xT : TypeId) (w : World) : (Instr.typeAssert (.iface 291 v) xT 245 true).run Tryz.prog w = .ok (.tuple #[.nilIface, .bool false]) w := run_typeAssert_lacksB Tryz.underlying245 (by kernel_rfl) (by kernel_rfl) v xT w
theorem noUnwrapE (v : Value) (xT : TypeId) (w : World) : (Instr.typeAssert (.iface 291 v) xT 182 true).run Tryz.prog w = .ok (.tuple #[.nilIface, .bool false]) w := run_typeAssert_lacksB Tryz.underlying182 (by kernel_rfl) (by kernel_rfl) v xT w
theorem noUnwrapsE (v : Value) (xT : TypeId) (w : World) : (Instr.typeAssert (.iface 291 v) xT 184 true).run Tryz.prog w = .ok (.tuple #[.nilIface, .bool false]) w := run_typeAssert_lacksB Tryz.underlying184 (by kernel_rfl) (by kernel_rfl) v xT w
theorem noIsF (v : Value) (xT : TypeId) (w : World) : (Instr.typeAssert (.iface 165 v) xT 245 true).run Tryz.prog w = .ok (.tuple #[.nilIface, .bool false]) w := run_typeAssert_lacksB Tryz.underlying245 (by kernel_rfl) (by kernel_rfl) v xT w
theorem hasUnwrapF (v : Value) (xT : TypeId) (w : World) : (Instr.typeAssert (.iface 165 v) xT 182 true).run Tryz.prog w = .ok (.tuple #[.iface 165 v, .bool true]) w := run_typeAssert_hasB Tryz.underlying182 (by kernel_rfl) v xT w
theorem methodUnwrapF (v : Value) (w : World) : (Go.method 432 165 v "Unwrap").run Tryz.prog w = .ok (254, v) w := by kernel_rfl
theorem heap_lt {w : World} {b : Nat} {o : Obj} (h : w.heap[b]? = some o) : b < w.heap.size := by
  rcases Nat.lt_or_ge b w.heap.size with h1 | h1
  · exact h1
  · rw [Array.getElem?_eq_none h1] at h; cases h
set_option maxRecDepth 100000 in
set_option maxHeartbeats 8000000 in
/-- errors.Is(fault, x), where the fault wraps x. -/
theorem is_fault_same (x : Int) (b : Addr) (w : World) :
    Calls Tryz.prog 104 #[.iface 165 (.agg #[.int .i64 x, .iface 291 (.pointer (some b))]), .iface 291 (.pointer (some b))] w fun e w' => e = .returned (.bool true) ∧ w.grownBy w' none := by
  obtain ⟨i, hi, hcmp⟩ := Option.map_eq_some_iff.1 isCompL
  obtain ⟨j, hj, hjs⟩ := Option.map_eq_some_iff.1 isSizeL
  have h8 := @run_callFunc_extern Tryz.prog 95 _ Extern.ReflectliteType.typeOf Tryz.func95 (by kernel_rfl) (by kernel_rfl) (by kernel_rfl) (by kernel_rfl)
  have h32 := @run_callFunc_extern Tryz.prog 257 _ (Extern.ReflectliteType.method fun t => do Go.Extern.Rtype.noPackHeld "Comparable" t; pure (.bool (← typeInfo t).comparable)) Tryz.func257 (by kernel_rfl) (by kernel_rfl) (by kernel_rfl) (by kernel_rfl)
  have tT := isTypeOfL
  have cT := isComparableL
  have mR := isMethodComparableL
  have nE := noIsE
  have uE := noUnwrapE
  have vE := noUnwrapsE
  have nW := noIsF
  have uW := hasUnwrapF
  have mU := methodUnwrapF
  have heq := fun w => run_eql_iface_ptr_same (P := Tryz.prog) w b Tryz.underlying83 Tryz.underlying291 hi hcmp hj
  have hty := fun w => run_eql_iface_types (P := Tryz.prog) 165 291 (.agg #[.int .i64 x, .iface 291 (.pointer (some b))]) (.pointer (some b)) Tryz.underlying83 (by decide) w
  go_enter Tryz.func104, Tryz.ntmps104
  go_wp2
  refine wp_loop_rounds 2 ?_
  rw [rounds_succ]
  go_wp2
  rw [rounds_succ]
  go_wp2
  go_ret
  exact ⟨rfl, by first | exact World.grownBy_alloc _ _ _ | exact (World.grownBy_alloc _ _ _).trans (World.grownBy_alloc _ _ _)⟩
set_option maxRecDepth 100000 in
set_option maxHeartbeats 8000000 in
/-- errors.Is(fault, x), where the fault wraps another one. -/
theorem is_fault_other (x : Int) (a b : Addr) (w : World) (hne : a ≠ b) (ha : ∃ c t, w.heap[a.block]? = some (.cells c t (0, 0))) (hb : ∃ c t, w.heap[b.block]? = some (.cells c t (0, 0))) :
    Calls Tryz.prog 104 #[.iface 165 (.agg #[.int .i64 x, .iface 291 (.pointer (some a))]), .iface 291 (.pointer (some b))] w fun e w' => e = .returned (.bool false) ∧ w.grownBy w' none := by
  obtain ⟨i, hi, hcmp⟩ := Option.map_eq_some_iff.1 isCompL
  obtain ⟨j, hj, hjs⟩ := Option.map_eq_some_iff.1 isSizeL
  have h8 := @run_callFunc_extern Tryz.prog 95 _ Extern.ReflectliteType.typeOf Tryz.func95 (by kernel_rfl) (by kernel_rfl) (by kernel_rfl) (by kernel_rfl)
  have h32 := @run_callFunc_extern Tryz.prog 257 _ (Extern.ReflectliteType.method fun t => do Go.Extern.Rtype.noPackHeld "Comparable" t; pure (.bool (← typeInfo t).comparable)) Tryz.func257 (by kernel_rfl) (by kernel_rfl) (by kernel_rfl) (by kernel_rfl)
  have tT := isTypeOfL
  have cT := isComparableL
  have mR := isMethodComparableL
  have nE := noIsE
  have uE := noUnwrapE
  have vE := noUnwrapsE
  have nW := noIsF
  have uW := hasUnwrapF
  have mU := methodUnwrapF
  obtain ⟨ca, ta, ha⟩ := ha
  obtain ⟨cb, tb, hb⟩ := hb
  have heq : ∀ o : Obj, (binOp .eql 83 (.iface 291 (.pointer (some a))) (.iface 291 (.pointer (some b)))).run Tryz.prog (w.alloc o) = .ok (.bool false) (w.alloc o) := fun o =>
    run_eql_iface_ptr_other (P := Tryz.prog) (w.alloc o) Tryz.underlying83 Tryz.underlying291 hi hcmp hj (by rw [hjs]; decide) hne (((World.grownBy_alloc w o none).block _ (heap_lt ha) (by simp)).trans ha) (((World.grownBy_alloc w o none).block _ (heap_lt hb) (by simp)).trans hb)
  clear ha hb hne
  have hty := fun w => run_eql_iface_types (P := Tryz.prog) 165 291 (.agg #[.int .i64 x, .iface 291 (.pointer (some a))]) (.pointer (some b)) Tryz.underlying83 (by decide) w
  go_enter Tryz.func104, Tryz.ntmps104
  go_wp2
  refine wp_loop_rounds 2 ?_
  rw [rounds_succ]
  go_wp2
  rw [rounds_succ]
  go_wp2
  go_ret
  exact ⟨rfl, by first | exact World.grownBy_alloc _ _ _ | exact (World.grownBy_alloc _ _ _).trans (World.grownBy_alloc _ _ _)⟩
/-- The pointer of an error's number. -/
def errA (n g m l : Addr) : Nat → Addr
  | 1 => g
  | 3 => m
  | 13 => l
  | _ => n
theorem errV_of (n g m l : Addr) (c : Nat) (hc : c = 1 ∨ c = 3 ∨ c = 10 ∨ c = 13) : errV n g m l c = .iface 291 (.pointer (some (errA n g m l c))) := by
  rcases hc with rfl | rfl | rfl | rfl <;> rfl
theorem box2X (w : World) (v0 v1 : Value) (T : TypeId) : (w.alloc (.cells #[v0, v1] T)).cell? ⟨w.heap.size, 0, none⟩ = some v0 ∧ (w.alloc (.cells #[v0, v1] T)).cell? ⟨w.heap.size, 1, none⟩ = some v1 :=
  ⟨cell_of_row _ _ 0 _ _ _ (heap_alloc_new _ _), cell_of_row _ _ 1 _ _ _ (heap_alloc_new _ _)⟩
set_option maxHeartbeats 1600000 in
theorem faultNo_any (G : Nat) (n g m l : Addr) (x : Int) (c : Nat) (hc : c = 1 ∨ c = 3 ∨ c = 10 ∨ c = 13) (w : World) (hE : LxEnv G n g m l w) :
    Calls Tryz.prog 81 #[.agg #[.int .i64 x, errV n g m l c]] w fun e w' => e = .returned (.int .i64 (c : Nat)) ∧ w.grownBy w' none := by
  rw [errV_of n g m l c hc]
  have HS := Lib.hid (is_fault_same x (errA n g m l c))
  have HE := Lib.hid hE
  have HO : Hid (∀ b W, w.grownBy W none → errA n g m l c ≠ b → (b = g ∨ b = m ∨ b = l) → Calls Tryz.prog 104 #[.iface 165 (.agg #[.int .i64 x, .iface 291 (.pointer (some (errA n g m l c)))]), .iface 291 (.pointer (some b))] W fun e w' => e = .returned (.bool false) ∧ W.grownBy w' none) := Lib.hid fun b W hW hne hb => by
    have h := hE.keep hW
    refine is_fault_other x _ b W hne ?_ ?_
    · rcases hc with rfl | rfl | rfl | rfl
      · exact h.sg.blk
      · exact h.sm.blk
      · exact h.sn.blk
      · exact h.sl.blk
    · rcases hb with rfl | rfl | rfl
      · exact h.sg.blk
      · exact h.sm.blk
      · exact h.sl.blk
  have N1 : c ≠ 1 → errA n g m l c ≠ g := fun h => by
    rcases hc with rfl | rfl | rfl | rfl
    · exact absurd rfl h
    · exact hE.sm.ne hE.sg (by decide)
    · exact hE.sn.ne hE.sg (by decide)
    · exact hE.sl.ne hE.sg (by decide)
  have N3 : c ≠ 3 → errA n g m l c ≠ m := fun h => by
    rcases hc with rfl | rfl | rfl | rfl
    · exact hE.sg.ne hE.sm (by decide)
    · exact absurd rfl h
    · exact hE.sn.ne hE.sm (by decide)
    · exact hE.sl.ne hE.sm (by decide)
  have N13 : c ≠ 13 → errA n g m l c ≠ l := fun h => by
    rcases hc with rfl | rfl | rfl | rfl
    · exact hE.sg.ne hE.sl (by decide)
    · exact hE.sm.ne hE.sl (by decide)
    · exact hE.sn.ne hE.sl (by decide)
    · exact absurd rfl h
  have M1 := Lib.hid N1
  have M3 := Lib.hid N3
  have M13 := Lib.hid N13
  clear N1 N3 N13 hE
  have B := Lib.hid (box2X w (.int .i64 x) (.iface 291 (.pointer (some (errA n g m l c)))) 165)
  have E1 := (HE.out.keep (World.grownBy_alloc w (.cells #[.int .i64 x, .iface 291 (.pointer (some (errA n g m l c)))] 165) none))
  have cg := E1.sg.var
  have K0 := Lib.hid (World.grownBy_alloc w (.cells #[.int .i64 x, .iface 291 (.pointer (some (errA n g m l c)))] 165) none)
  have A1 : Hid (c = 1 → errA n g m l c = g) := Lib.hid fun h => by subst h; rfl
  have A3 : Hid (c = 3 → errA n g m l c = m) := Lib.hid fun h => by subst h; rfl
  have A13 : Hid (c = 13 → errA n g m l c = l) := Lib.hid fun h => by subst h; rfl
  generalize errA n g m l c = a at *
  by_cases h1 : c = 1
  · obtain rfl := A1.out h1
    subst h1
    clear E1 hc
    go_enter Tryz.func81, Tryz.ntmps81
    go_wp2_with fail
    refine (HS.out _).mono ?_
    rintro e w1 ⟨rfl, hg⟩
    have K1 := Lib.hid (K0.out.trans hg)
    clear hg
    go_wp2_with fail
    go_ret
    exact ⟨rfl, K1.out⟩
  have H1 := Lib.hid (HO.out g _ K0.out (M1.out h1) (.inl rfl))
  by_cases h3 : c = 3
  · obtain rfl := A3.out h3
    subst h3
    clear E1 hc h1
    go_enter Tryz.func81, Tryz.ntmps81
    go_wp2_with fail
    refine (H1.out).mono ?_
    rintro e w1 ⟨rfl, hg⟩
    have K1 := Lib.hid (K0.out.trans hg)
    have b0 := hg.cell B.out.1 (by simp)
    have b1 := hg.cell B.out.2 (by simp)
    have cm := (HE.out.keep K1.out).sm.var
    clear hg
    go_wp2_with fail
    refine (HS.out _).mono ?_
    rintro e w2 ⟨rfl, hg⟩
    have K2 := Lib.hid (K1.out.trans hg)
    clear hg
    go_wp2_with fail
    go_ret
    exact ⟨rfl, K2.out⟩
  by_cases h13 : c = 13
  · obtain rfl := A13.out h13
    subst h13
    have HO3 := Lib.hid (fun W hW => HO.out m W hW (M3.out h3) (.inr (.inl rfl)))
    clear E1 hc h1 h3
    go_enter Tryz.func81, Tryz.ntmps81
    go_wp2_with fail
    refine (H1.out).mono ?_
    rintro e w1 ⟨rfl, hg⟩
    have K1 := Lib.hid (K0.out.trans hg)
    have b0 := hg.cell B.out.1 (by simp)
    have b1 := hg.cell B.out.2 (by simp)
    have cm := (HE.out.keep K1.out).sm.var
    clear hg
    go_wp2_with fail
    refine (HO3.out _ K1.out).mono ?_
    rintro e w2 ⟨rfl, hg⟩
    have K2 := Lib.hid (K1.out.trans hg)
    have d0 := hg.cell b0 (by simp)
    have d1 := hg.cell b1 (by simp)
    have cl := (HE.out.keep K2.out).sl.var
    clear hg b0 b1 cm
    go_wp2_with fail
    refine (HS.out _).mono ?_
    rintro e w3 ⟨rfl, hg⟩
    have K3 := Lib.hid (K2.out.trans hg)
    clear hg
    go_wp2_with fail
    go_ret
    exact ⟨rfl, K3.out⟩
  · obtain rfl : c = 10 := by omega
    have HO3 := Lib.hid (fun W hW => HO.out m W hW (M3.out h3) (.inr (.inl rfl)))
    have HO13 := Lib.hid (fun W hW => HO.out l W hW (M13.out h13) (.inr (.inr rfl)))
    clear E1 hc h1 h3 h13
    go_enter Tryz.func81, Tryz.ntmps81
    go_wp2_with fail
    refine (H1.out).mono ?_
    rintro e w1 ⟨rfl, hg⟩
    have K1 := Lib.hid (K0.out.trans hg)
    have b0 := hg.cell B.out.1 (by simp)
    have b1 := hg.cell B.out.2 (by simp)
    have cm := (HE.out.keep K1.out).sm.var
    clear hg
    go_wp2_with fail
    refine (HO3.out _ K1.out).mono ?_
    rintro e w2 ⟨rfl, hg⟩
    have K2 := Lib.hid (K1.out.trans hg)
    have d0 := hg.cell b0 (by simp)
    have d1 := hg.cell b1 (by simp)
    have cl := (HE.out.keep K2.out).sl.var
    clear hg b0 b1 cm
    go_wp2_with fail
    refine (HO13.out _ K2.out).mono ?_
    rintro e w3 ⟨rfl, hg⟩
    have K3 := Lib.hid (K2.out.trans hg)
    clear hg
    go_wp2_with fail
    go_ret
    exact ⟨rfl, K3.out⟩
end Go.Proofs.YtppigamibgefaaaGreatDoor
