/- errors.Is at a fault that wraps one of lex's errors; the contract of fault's number. What the cards of layer 10 share: their ten listed variables, and what these give. tree's walk: how it begins, and its next. -/
import Derived.Test.YtjaclmoobfeikaaGreatDoorZl16
import Derived.LaidEql
import Derived.Stop.Asserts
import Derived.RowKitTokens
import Derived.Test.YtjaclmoobfeikaaGreatDoorRows
import Derived.ProofKit
import Derived.OpenShut
import Derived.Deep.Slices
import Derived.Deep.Fields
import Derived.ChangeSame
import Derived.Lib.SmallJoins
import Derived.LaidMore
import Derived.LaidHandle
import Derived.Stop.Joined
import Derived.Lib.LaidTab
import Derived.Stop.LaidErr
import Derived.MakeChecks
import Derived.Test.YtjaclmoobfeikaaGreatDoorZl17
import Derived.Laws.EntriesVeiled
namespace Go.Proofs.YtjaclmoobfeikaaGreatDoor
open Go.RowKit Go.Extern.Stop Go.Stop Go.Extern

theorem isTypeOfL (v : Value) (w : World) : (Extern.ReflectliteType.typeOf #[.iface 256 v]).run Tryz.prog w = .ok (.iface 136 (.agg #[.pointer (some ⟨16, 256, none⟩)])) w := by kernel_rfl
theorem isComparableL (w : World) : ((Extern.ReflectliteType.method fun t => do Go.Extern.Rtype.noPackHeld "Comparable" t; (fun a => Value.bool a.comparable) <$> typeInfo t) #[.agg #[.pointer (some ⟨16, 256, none⟩)]]).run Tryz.prog w = .ok (.bool true) w := by kernel_rfl
theorem isMethodComparableL (v : Value) (w : World) : (Go.method 397 136 v "Comparable").run Tryz.prog w = .ok (220, v) w := by kernel_rfl
theorem isCompL : (Tryz.prog.info? 256).map (·.comparable) = some true := by kernel_rfl
theorem isSizeL : (Tryz.prog.info? 258).map (·.size) = some 1 := by kernel_rfl
theorem noIsE (v : Value) (xT : TypeId) (w : World) : (Instr.typeAssert (.iface 256 v) xT 200 true).run Tryz.prog w = .ok (.tuple #[.nilIface, .bool false]) w := run_typeAssert_lacksB Tryz.underlying200 (by kernel_rfl) (by kernel_rfl) v xT w
theorem noUnwrapE (v : Value) (xT : TypeId) (w : World) : (Instr.typeAssert (.iface 256 v) xT 144 true).run Tryz.prog w = .ok (.tuple #[.nilIface, .bool false]) w := run_typeAssert_lacksB Tryz.underlying144 (by kernel_rfl) (by kernel_rfl) v xT w
theorem noUnwrapsE (v : Value) (xT : TypeId) (w : World) : (Instr.typeAssert (.iface 256 v) xT 146 true).run Tryz.prog w = .ok (.tuple #[.nilIface, .bool false]) w := run_typeAssert_lacksB Tryz.underlying146 (by kernel_rfl) (by kernel_rfl) v xT w
theorem noIsF (v : Value) (xT : TypeId) (w : World) : (Instr.typeAssert (.iface 125 v) xT 200 true).run Tryz.prog w = .ok (.tuple #[.nilIface, .bool false]) w := run_typeAssert_lacksB Tryz.underlying200 (by kernel_rfl) (by kernel_rfl) v xT w
theorem hasUnwrapF (v : Value) (xT : TypeId) (w : World) : (Instr.typeAssert (.iface 125 v) xT 144 true).run Tryz.prog w = .ok (.tuple #[.iface 125 v, .bool true]) w := run_typeAssert_hasB Tryz.underlying144 (by kernel_rfl) v xT w
theorem methodUnwrapF (v : Value) (w : World) : (Go.method 397 125 v "Unwrap").run Tryz.prog w = .ok (217, v) w := by kernel_rfl
theorem heap_lt {w : World} {b : Nat} {o : Obj} (h : w.heap[b]? = some o) : b < w.heap.size := by
  rcases Nat.lt_or_ge b w.heap.size with h1 | h1
  · exact h1
  · rw [Array.getElem?_eq_none h1] at h; cases h
set_option maxRecDepth 100000 in
set_option maxHeartbeats 8000000 in
/-- errors.Is(fault, x), where the fault wraps x. -/
theorem is_fault_same (x : Int) (b : Addr) (w : World) :
    Calls Tryz.prog 48 #[.iface 125 (.agg #[.int .i64 x, .iface 256 (.pointer (some b))]), .iface 256 (.pointer (some b))] w fun e w' => e = .returned (.bool true) ∧ w.grownBy w' none := by
  obtain ⟨i, hi, hcmp⟩ := Option.map_eq_some_iff.1 isCompL
  obtain ⟨j, hj, hjs⟩ := Option.map_eq_some_iff.1 isSizeL
  have h8 := @run_callFunc_extern Tryz.prog 64 _ Extern.ReflectliteType.typeOf Tryz.func64 (by kernel_rfl) (by kernel_rfl) (by kernel_rfl) (by kernel_rfl)
  have h32 := @run_callFunc_extern Tryz.prog 220 _ (Extern.ReflectliteType.method fun t => do Go.Extern.Rtype.noPackHeld "Comparable" t; pure (.bool (← typeInfo t).comparable)) Tryz.func220 (by kernel_rfl) (by kernel_rfl) (by kernel_rfl) (by kernel_rfl)
  have tT := isTypeOfL
  have cT := isComparableL
  have mR := isMethodComparableL
  have nE := noIsE
  have uE := noUnwrapE
  have vE := noUnwrapsE
  have nW := noIsF
  have uW := hasUnwrapF
  have mU := methodUnwrapF
  have heq := fun w => run_eql_iface_ptr_same (P := Tryz.prog) w b Tryz.underlying69 Tryz.underlying256 hi hcmp hj
  have hty := fun w => run_eql_iface_types (P := Tryz.prog) 125 256 (.agg #[.int .i64 x, .iface 256 (.pointer (some b))]) (.pointer (some b)) Tryz.underlying69 (by decide) w
  go_enter Tryz.func48, Tryz.ntmps48
  go_wp2
  refine wp_loop_rounds 2 ?_
  rw [rounds_succ]
  go_wp2
  rw [rounds_succ]
  go_wp2
  go_ret
  exact ⟨rfl, by first | exact World.grownBy_alloc _ _ _ | exact (World.grownBy_alloc _ _ _).trans (World.grownBy_alloc _ _ _)⟩
set_option maxRecDepth 100000 in
set_option maxHeartbeats 8000000 in
/-- errors.Is(fault, x), where the fault wraps another one. -/
theorem is_fault_other (x : Int) (a b : Addr) (w : World) (hne : a ≠ b) (ha : ∃ c t, w.heap[a.block]? = some (.cells c t (0, 0))) (hb : ∃ c t, w.heap[b.block]? = some (.cells c t (0, 0))) :
    Calls Tryz.prog 48 #[.iface 125 (.agg #[.int .i64 x, .iface 256 (.pointer (some a))]), .iface 256 (.pointer (some b))] w fun e w' => e = .returned (.bool false) ∧ w.grownBy w' none := by
  obtain ⟨i, hi, hcmp⟩ := Option.map_eq_some_iff.1 isCompL
  obtain ⟨j, hj, hjs⟩ := Option.map_eq_some_iff.1 isSizeL
  have h8 := @run_callFunc_extern Tryz.prog 64 _ Extern.ReflectliteType.typeOf Tryz.func64 (by kernel_rfl) (by kernel_rfl) (by kernel_rfl) (by kernel_rfl)
  have h32 := @run_callFunc_extern Tryz.prog 220 _ (Extern.ReflectliteType.method fun t => do Go.Extern.Rtype.noPackHeld "Comparable" t; pure (.bool (← typeInfo t).comparable)) Tryz.func220 (by kernel_rfl) (by kernel_rfl) (by kernel_rfl) (by kernel_rfl)
  have tT := isTypeOfL
  have cT := isComparableL
  have mR := isMethodComparableL
  have nE := noIsE
  have uE := noUnwrapE
  have vE := noUnwrapsE
  have nW := noIsF
  have uW := hasUnwrapF
  have mU := methodUnwrapF
  obtain ⟨ca, ta, ha⟩ := ha
  obtain ⟨cb, tb, hb⟩ := hb
  have heq : ∀ o : Obj, (binOp .eql 69 (.iface 256 (.pointer (some a))) (.iface 256 (.pointer (some b)))).run Tryz.prog (w.alloc o) = .ok (.bool false) (w.alloc o) := fun o =>
    run_eql_iface_ptr_other (P := Tryz.prog) (w.alloc o) Tryz.underlying69 Tryz.underlying256 hi hcmp hj (by rw [hjs]; decide) hne (((World.grownBy_alloc w o none).block _ (heap_lt ha) (by simp)).trans ha) (((World.grownBy_alloc w o none).block _ (heap_lt hb) (by simp)).trans hb)
  clear ha hb hne
  have hty := fun w => run_eql_iface_types (P := Tryz.prog) 125 256 (.agg #[.int .i64 x, .iface 256 (.pointer (some a))]) (.pointer (some b)) Tryz.underlying69 (by decide) w
  go_enter Tryz.func48, Tryz.ntmps48
  go_wp2
  refine wp_loop_rounds 2 ?_
  rw [rounds_succ]
  go_wp2
  rw [rounds_succ]
  go_wp2
  go_ret
  exact ⟨rfl, by first | exact World.grownBy_alloc _ _ _ | exact (World.grownBy_alloc _ _ _).trans (World.grownBy_alloc _ _ _)⟩
/-- The pointer of an error's number. -/
def errA (n g m l : Addr) : Nat → Addr
  | 1 => g
  | 3 => m
  | 13 => l
  | _ => n
theorem errV_of (n g m l : Addr) (c : Nat) (hc : c = 1 ∨ c = 3 ∨ c = 10 ∨ c = 13) : errV n g m l c = .iface 256 (.pointer (some (errA n g m l c))) := by
  rcases hc with rfl | rfl | rfl | rfl <;> rfl
theorem box2X (w : World) (v0 v1 : Value) (T : TypeId) : (w.alloc (.cells #[v0, v1] T)).cell? ⟨w.heap.size, 0, none⟩ = some v0 ∧ (w.alloc (.cells #[v0, v1] T)).cell? ⟨w.heap.size, 1, none⟩ = some v1 :=
  ⟨cell_of_row _ _ 0 _ _ _ (heap_alloc_new _ _), cell_of_row _ _ 1 _ _ _ (heap_alloc_new _ _)⟩
set_option maxHeartbeats 1600000 in
theorem faultNo_any (G : Nat) (n g m l : Addr) (x : Int) (c : Nat) (hc : c = 1 ∨ c = 3 ∨ c = 10 ∨ c = 13) (w : World) (hE : LxEnv G n g m l w) :
    Calls Tryz.prog 50 #[.agg #[.int .i64 x, errV n g m l c]] w fun e w' => e = .returned (.int .i64 (c : Nat)) ∧ w.grownBy w' none := by
  rw [errV_of n g m l c hc]
  have HS := Lib.hid (is_fault_same x (errA n g m l c))
  have HE := Lib.hid hE
  have HO : Hid (∀ b W, w.grownBy W none → errA n g m l c ≠ b → (b = g ∨ b = m ∨ b = l) → Calls Tryz.prog 48 #[.iface 125 (.agg #[.int .i64 x, .iface 256 (.pointer (some (errA n g m l c)))]), .iface 256 (.pointer (some b))] W fun e w' => e = .returned (.bool false) ∧ W.grownBy w' none) := Lib.hid fun b W hW hne hb => by
    have h := hE.keep hW
    refine is_fault_other x _ b W hne ?_ ?_
    · rcases hc with rfl | rfl | rfl | rfl
      · exact h.sg.blk
      · exact h.sm.blk
      · exact h.sn.blk
      · exact h.sl.blk
    · rcases hb with rfl | rfl | rfl
      · exact h.sg.blk
      · exact h.sm.blk
      · exact h.sl.blk
  have N1 : c ≠ 1 → errA n g m l c ≠ g := fun h => by
    rcases hc with rfl | rfl | rfl | rfl
    · exact absurd rfl h
    · exact hE.sm.ne hE.sg (by decide)
    · exact hE.sn.ne hE.sg (by decide)
    · exact hE.sl.ne hE.sg (by decide)
  have N3 : c ≠ 3 → errA n g m l c ≠ m := fun h => by
    rcases hc with rfl | rfl | rfl | rfl
    · exact hE.sg.ne hE.sm (by decide)
    · exact absurd rfl h
    · exact hE.sn.ne hE.sm (by decide)
    · exact hE.sl.ne hE.sm (by decide)
  have N13 : c ≠ 13 → errA n g m l c ≠ l := fun h => by
    rcases hc with rfl | rfl | rfl | rfl
    · exact hE.sg.ne hE.sl (by decide)
    · exact hE.sm.ne hE.sl (by decide)
    · exact hE.sn.ne hE.sl (by decide)
    · exact absurd rfl h
  have M1 := Lib.hid N1
  have M3 := Lib.hid N3
  have M13 := Lib.hid N13
  clear N1 N3 N13 hE
  have B := Lib.hid (box2X w (.int .i64 x) (.iface 256 (.pointer (some (errA n g m l c)))) 125)
  have E1 := (HE.out.keep (World.grownBy_alloc w (.cells #[.int .i64 x, .iface 256 (.pointer (some (errA n g m l c)))] 125) none))
  have cg := E1.sg.var
  have K0 := Lib.hid (World.grownBy_alloc w (.cells #[.int .i64 x, .iface 256 (.pointer (some (errA n g m l c)))] 125) none)
  have A1 : Hid (c = 1 → errA n g m l c = g) := Lib.hid fun h => by subst h; rfl
  have A3 : Hid (c = 3 → errA n g m l c = m) := Lib.hid fun h => by subst h; rfl
  have A13 : Hid (c = 13 → errA n g m l c = l) := Lib.hid fun h => by subst h; rfl
  generalize errA n g m l c = a at *
  by_cases h1 : c = 1
  · obtain rfl := A1.out h1
    subst h1
    clear E1 hc
    go_enter Tryz.func50, Tryz.ntmps50
    go_wp2_with fail
    refine (HS.out _).mono ?_
    rintro e w1 ⟨rfl, hg⟩
    have K1 := Lib.hid (K0.out.trans hg)
    clear hg
    go_wp2_with fail
    go_ret
    exact ⟨rfl, K1.out⟩
  have H1 := Lib.hid (HO.out g _ K0.out (M1.out h1) (.inl rfl))
  by_cases h3 : c = 3
  · obtain rfl := A3.out h3
    subst h3
    clear E1 hc h1
    go_enter Tryz.func50, Tryz.ntmps50
    go_wp2_with fail
    refine (H1.out).mono ?_
    rintro e w1 ⟨rfl, hg⟩
    have K1 := Lib.hid (K0.out.trans hg)
    have b0 := hg.cell B.out.1 (by simp)
    have b1 := hg.cell B.out.2 (by simp)
    have cm := (HE.out.keep K1.out).sm.var
    clear hg
    go_wp2_with fail
    refine (HS.out _).mono ?_
    rintro e w2 ⟨rfl, hg⟩
    have K2 := Lib.hid (K1.out.trans hg)
    clear hg
    go_wp2_with fail
    go_ret
    exact ⟨rfl, K2.out⟩
  by_cases h13 : c = 13
  · obtain rfl := A13.out h13
    subst h13
    have HO3 := Lib.hid (fun W hW => HO.out m W hW (M3.out h3) (.inr (.inl rfl)))
    clear E1 hc h1 h3
    go_enter Tryz.func50, Tryz.ntmps50
    go_wp2_with fail
    refine (H1.out).mono ?_
    rintro e w1 ⟨rfl, hg⟩
    have K1 := Lib.hid (K0.out.trans hg)
    have b0 := hg.cell B.out.1 (by simp)
    have b1 := hg.cell B.out.2 (by simp)
    have cm := (HE.out.keep K1.out).sm.var
    clear hg
    go_wp2_with fail
    refine (HO3.out _ K1.out).mono ?_
    rintro e w2 ⟨rfl, hg⟩
    have K2 := Lib.hid (K1.out.trans hg)
    have d0 := hg.cell b0 (by simp)
    have d1 := hg.cell b1 (by simp)
    have cl := (HE.out.keep K2.out).sl.var
    clear hg b0 b1 cm
    go_wp2_with fail
    refine (HS.out _).mono ?_
    rintro e w3 ⟨rfl, hg⟩
    have K3 := Lib.hid (K2.out.trans hg)
    clear hg
    go_wp2_with fail
    go_ret
    exact ⟨rfl, K3.out⟩
  · obtain rfl : c = 10 := by omega
    have HO3 := Lib.hid (fun W hW => HO.out m W hW (M3.out h3) (.inr (.inl rfl)))
    have HO13 := Lib.hid (fun W hW => HO.out l W hW (M13.out h13) (.inr (.inr rfl)))
    clear E1 hc h1 h3 h13
    go_enter Tryz.func50, Tryz.ntmps50
    go_wp2_with fail
    refine (H1.out).mono ?_
    rintro e w1 ⟨rfl, hg⟩
    have K1 := Lib.hid (K0.out.trans hg)
    have b0 := hg.cell B.out.1 (by simp)
    have b1 := hg.cell B.out.2 (by simp)
    have cm := (HE.out.keep K1.out).sm.var
    clear hg
    go_wp2_with fail
    refine (HO3.out _ K1.out).mono ?_
    rintro e w2 ⟨rfl, hg⟩
    have K2 := Lib.hid (K1.out.trans hg)
    have d0 := hg.cell b0 (by simp)
    have d1 := hg.cell b1 (by simp)
    have cl := (HE.out.keep K2.out).sl.var
    clear hg b0 b1 cm
    go_wp2_with fail
    refine (HO13.out _ K2.out).mono ?_
    rintro e w3 ⟨rfl, hg⟩
    have K3 := Lib.hid (K2.out.trans hg)
    clear hg
    go_wp2_with fail
    go_ret
    exact ⟨rfl, K3.out⟩
end Go.Proofs.YtjaclmoobfeikaaGreatDoor
namespace Go.Proofs.YtjaclmoobfeikaaGreatDoor
open Go.ChangeShapes Go.WideShapes Go.ChangeAt Go.RowKit Go.Joins Go.Deep

theorem heap_ltL {w : World} {b : Nat} {o : Obj} (h : w.heap[b]? = some o) : b < w.heap.size := by
  rcases Nat.lt_or_ge b w.heap.size with h1 | h1
  · exact h1
  · rw [Array.getElem?_eq_none h1] at h; cases h
theorem own : ownKnob Tryz.prog.godebug = none := by kernel_rfl
theorem laidOut : laidOutB Tryz.prog = true := by kernel_rfl
theorem et_named : Tryz.prog.globalNamed "errors.errorType" = some 0 := by kernel_rfl
theorem rt_named : (Tryz.prog.cutTypes.find? (·.1 == "internal/reflectlite.rtype")).map (·.2) = some 136 := by kernel_rfl
theorem types_size : Tryz.prog.types.size = 297 := by kernel_rfl
theorem one_error : ((List.range 297).filter fun t => Tryz.prog.rowNamed t [101, 114, 114, 111, 114]) = [69] := by kernel_rfl
/-- The variable errors.errorType, out of the condition. -/
theorem handle_of {l : List (String × DataW Unit)} {W : World} (h : handlesMet Tryz.prog l W) (hm : ("errors.errorType", Rows.laid_errors_errorType) ∈ l) : ErrT W.heap.size W := by
  obtain ⟨name, u, ty, e1, e2, e3, e4, e5⟩ := h _ hm
  have en : name = [101, 114, 114, 111, 114] := (Option.some.inj e1).symm
  subst en
  obtain rfl := Option.some.inj (rt_named.symm.trans e2)
  have hm : ty ∈ (List.range 297).filter fun t => Tryz.prog.rowNamed t [101, 114, 114, 111, 114] := List.mem_filter.2 ⟨List.mem_range.2 (by rw [← types_size]; exact e3), e4⟩
  rw [one_error] at hm
  obtain rfl := List.mem_singleton.1 hm
  have hh : typeHandle Tryz.prog 69 = .pointer (some ⟨16, 69, none⟩) := by kernel_rfl
  rw [hh] at e5
  have hc : W.cell? ⟨0, 0, none⟩ = some (.iface 136 (.agg #[.pointer (some ⟨16, 69, none⟩)])) := by simpa using World.var?_cell et_named e5 0
  exact ⟨block_lt_of_cell hc, hc⟩
theorem star_err : "*" ++ "errors.errorString" = "*errors.errorString" := by decide
set_option maxRecDepth 100000 in
theorem row_err (u : TypeId) (h : Tryz.prog.typeName? 3 u = some "*errors.errorString") : u = 256 :=
  typeName_ptr_named (nm := "errors.errorString") (by rw [star_err]; kernel_rfl) (by kernel_rfl) (by decide) u (by rw [star_err]; exact h)
/-- A sentinel at the head of the list, its block's marks too, of whatever program. -/
theorem laid_sentinelL {P : Program} {n nm : String} {text : List UInt8} {r : List (String × DataW Unit)} {W : World} {g : Nat} {ti tp te ts : TypeId} {ms : Array (String × TypeId)} {f : Field}
    (h : laidMet P ((n, .iface nm (.ptr (.agg [.lit (.string text)]))) :: r) W)
    (hg : P.globalNamed n = some g) (ht : (P.globals[g]?).map (·.type) = some ti) (hi : P.underlying ti = some (.interface ms)) (hrow : ∀ u, P.typeName? 3 u = some nm → u = tp)
    (hp : P.underlying tp = some (.pointer te)) (he : P.underlying te = some (.struct #[f])) (hft : f.type = ts) (hfo : f.offset = 0) (hs : P.underlying ts = some .string) (hc : P.cellsOf te = 1) (hcs : P.cellsOf ts = 1) :
    ∃ (a : Addr) (s : ByteArray) (c : Array Value) (t : TypeId), W.cell? ⟨g, 0, none⟩ = some (.iface tp (.pointer (some a))) ∧ W.cell? a = some (.string s) ∧ s.data.toList = text ∧ W.heap[a.block]? = some (.cells c t (0, 0)) := by
  obtain ⟨ps, ⟨g0, t0, cs0, f0, p0, q0, hg0, ht0, hv0, hd0, _, e0⟩, _, hrows⟩ := h
  obtain rfl := Option.some.inj (hg.symm.trans hg0)
  obtain rfl := Option.some.inj (ht.symm.trans ht0)
  subst e0
  obtain ⟨l0⟩ := cs0
  have ok0 : ∀ u v, l0 = [.iface u v] → Value.okWide P W .any 0 u v := fun u v e => by
    subst e
    exact (hrows g 0 (by simp [MemPlace.row])).2 u v (by simpa using World.var?_cell hg0 hv0 0)
  obtain ⟨a0, s0, rfl, hc0, hs0, hz0, rfl⟩ := errorString_of_trod hi hrow hp he hft hfo hs hc hcs hd0 ok0
  obtain ⟨c0, t0, hb0⟩ := (hrows a0.block a0.off (by simp [MemPlace.row])).1
  exact ⟨a0, s0, c0, t0, by simpa using World.var?_cell hg0 hv0 0, hc0, hs0, hb0⟩
theorem senAt_of {n : String} {text : List UInt8} {r : List (String × DataW Unit)} {W : World} {g : Nat} (h : laidMet Tryz.prog ((n, .iface "*errors.errorString" (.ptr (.agg [.lit (.string text)]))) :: r) W) (hg : Tryz.prog.globalNamed n = some g) (ht : (Tryz.prog.globals[g]?).map (·.type) = some 69) :
    ∃ a, SenAt W.heap.size g a text W := by
  obtain ⟨a, s, c, t, hv, hc, hs, hb⟩ := laid_sentinelL h hg ht Tryz.underlying69 row_err Tryz.underlying256 Tryz.underlying258 rfl rfl Tryz.underlying9 (by kernel_rfl) (by kernel_rfl)
  exact ⟨a, block_lt_of_cell hv, heap_ltL hb, hv, ⟨s, hc, hs⟩, ⟨c, t, hb⟩⟩
theorem below_grownL {w w' : World} (h : w.grownBy w' none) : Below w.heap.size w w' := ⟨h.os, h.tape, h.output, h.size, fun i hi => h.block i hi (by simp)⟩
end Go.Proofs.YtjaclmoobfeikaaGreatDoor
namespace Go.Proofs.YtjaclmoobfeikaaGreatDoor
open Go.RowKit

theorem RwS.of {w : World} {a : Option Addr} {l : List Vl} (h : RowAt w a l) (hl : l.length ≤ 4294967296) : RwS (fun b => b < w.heap.size) w a l :=
  ⟨hl, h.2.1, h.2.2.imp id fun ⟨b, off, e, hlt, hc⟩ => ⟨b, off, e, hlt, hlt, hc⟩⟩
end Go.Proofs.YtjaclmoobfeikaaGreatDoor
