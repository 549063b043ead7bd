/- errors.As at frame's length: at another error it doesn't hit. -/
import Derived.Test.YthdaibmminibhaaDoorAsL
import Derived.Stop.Asserts
namespace Go.Proofs.YthdaibmminibhaaDoor
open Go.RowKit Go.Extern.Stop Go.Stop Go.Extern

theorem typeOfS (p : Value) (w : World) : (ReflectliteType.typeOf #[.iface 223 p]).run Tryd.prog w = .ok (.iface 201 (.agg #[.pointer (some ⟨18, 223, none⟩)])) w := by kernel_rfl
theorem assignS (w : World) : (ReflectliteType.relation "AssignableTo" ReflectliteType.assignableTo #[.agg #[.pointer (some ⟨18, 223, none⟩)], .iface 201 (.agg #[.pointer (some ⟨18, 131, none⟩)])]).run Tryd.prog w = .ok (.bool false) w := by kernel_rfl
theorem lacksAs (p : Value) (w : World) : (Instr.typeAssert (.iface 223 p) 114 206 true).run Tryd.prog w = .ok (.tuple #[.nilIface, .bool false]) w := run_typeAssert_lacksB Tryd.underlying206 (by kernel_rfl) (by kernel_rfl) p 114 w
theorem lacksUnwrap (p : Value) (w : World) : (Instr.typeAssert (.iface 223 p) 114 209 true).run Tryd.prog w = .ok (.tuple #[.nilIface, .bool false]) w := run_typeAssert_lacksB Tryd.underlying209 (by kernel_rfl) (by kernel_rfl) p 114 w
theorem lacksUnwraps (p : Value) (w : World) : (Instr.typeAssert (.iface 223 p) 114 210 true).run Tryd.prog w = .ok (.tuple #[.nilIface, .bool false]) w := run_typeAssert_lacksB Tryd.underlying210 (by kernel_rfl) (by kernel_rfl) p 114 w
set_option maxRecDepth 100000 in
set_option maxHeartbeats 8000000 in
theorem as_missL (s : Addr) (t G : Nat) (w : World) (hE : ErrT G w) :
    Calls Tryd.prog 82 #[.iface 223 (.pointer (some s)), .iface 162 (.pointer (some ⟨t, 0, none⟩))] w fun ev w' => ev = .returned (.bool false) ∧ w.grownBy w' none := by
  have hg := hE.2
  have h6 := @run_callFunc_extern Tryd.prog 103 _ (fun args => ReflectliteValue.unpack (args.getD 0 (.tuple #[]))) Tryd.func103 (by kernel_rfl) (by kernel_rfl) (by kernel_rfl) (by kernel_rfl)
  have h7 := @run_callFunc_extern Tryd.prog 104 _ (ReflectliteValue.methodAny (ReflectliteValue.valueError "reflectlite.Value.Type" 0) (fun t _ _ _ => ReflectliteType.toType t)) Tryd.func104 (by kernel_rfl) (by kernel_rfl) (by kernel_rfl) (by kernel_rfl)
  have h8 := @run_callFunc_extern Tryd.prog 105 _ (ReflectliteValue.method (ReflectliteValue.valueError "reflectlite.Value.IsNil" 0) ReflectliteValue.isNil) Tryd.func105 (by kernel_rfl) (by kernel_rfl) (by kernel_rfl) (by kernel_rfl)
  have h27 := @run_callFunc_extern Tryd.prog 143 _ (ReflectliteType.abiMethod fun t => do pure (.int .u8 (← Rtype.kind t))) Tryd.func143 (by kernel_rfl) (by kernel_rfl) (by kernel_rfl) (by kernel_rfl)
  have h37 := @run_callFunc_extern Tryd.prog 158 _ (ReflectliteType.method ReflectliteType.elem) Tryd.func158 (by kernel_rfl) (by kernel_rfl) (by kernel_rfl) (by kernel_rfl)
  have h38 := @run_callFunc_extern Tryd.prog 159 _ (ReflectliteType.relation "Implements" ReflectliteType.implements_) Tryd.func159 (by kernel_rfl) (by kernel_rfl) (by kernel_rfl) (by kernel_rfl)
  have h10 := @run_callFunc_extern Tryd.prog 118 _ ReflectliteType.typeOf Tryd.func118 (by kernel_rfl) (by kernel_rfl) (by kernel_rfl) (by kernel_rfl)
  have h35 := @run_callFunc_extern Tryd.prog 156 _ (ReflectliteType.relation "AssignableTo" ReflectliteType.assignableTo) Tryd.func156 (by kernel_rfl) (by kernel_rfl) (by kernel_rfl) (by kernel_rfl)
  have tO := typeOfS
  have l1 := lacksAs
  have l2 := lacksUnwrap
  have l3 := lacksUnwraps
  have mA := methodAssignableTo
  have a25 := assignS
  have f6 := valueOfPL
  have f7 := typePL
  have mK := methodKind
  have mE := methodElem
  have mI := methodImplements
  have k27 := kindPL
  have k25 := kindEL
  have e27 := elemPL
  have i25 := implEL
  have n8 := isNilPL ⟨w.heap.size, 0, none⟩ ⟨t, 0, none⟩ ((w.alloc (.cells #[.pointer (some ⟨t, 0, none⟩)] 162)).alloc (.cells #[.pointer (some ⟨18, 162, none⟩), .pointer (some ⟨w.heap.size, 0, none⟩), .int .u64 150] 180)) (by simp)
  have hlt : 9 < w.heap.size := World.block_lt_of_cell? w _ hg
  have hg2 : ((w.alloc (.cells #[.pointer (some ⟨t, 0, none⟩)] 162)).alloc (.cells #[.pointer (some ⟨18, 162, none⟩), .pointer (some ⟨w.heap.size, 0, none⟩), .int .u64 150] 180)).cell? ⟨9, 0, none⟩ = some (.iface 201 (.agg #[.pointer (some ⟨18, 114, none⟩)])) := by
    rw [World.cell?_alloc_lt _ _ ⟨9, 0, none⟩ (by simp; omega), World.cell?_alloc_lt _ _ ⟨9, 0, none⟩ hlt]; exact hg
  go_enter Tryd.func82, Tryd.ntmps82
  go_wp2
  refine wp_loop_rounds 1 ?_
  rw [rounds_succ]
  go_wp2
  go_ret
  exact ⟨rfl, ((World.grownBy_alloc _ _ _).trans (World.grownBy_alloc _ _ _)).trans (World.grownBy_alloc _ _ _)⟩
end Go.Proofs.YthdaibmminibhaaDoor
