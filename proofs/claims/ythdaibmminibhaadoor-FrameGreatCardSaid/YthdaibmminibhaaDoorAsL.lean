/- errors.As at frame's length: it hits; at another error it doesn't. -/
import Derived.Test.YthdaibmminibhaaDoorAs
namespace Go.Proofs.YthdaibmminibhaaDoor
open Go.RowKit Go.Extern.Stop Go.Stop Go.Extern

/-! ### at L -/
theorem valueOfPL (t : Addr) (w : World) : (ReflectliteValue.unpack (.iface 162 (.pointer (some t)))).run Tryd.prog w
    = .ok (.agg #[.pointer (some ⟨18, 162, none⟩), .pointer (some ⟨w.heap.size, 0, none⟩), .int .u64 150]) (w.alloc (.cells #[.pointer (some t)] 162)) := by kernel_rfl
theorem typePL (a : Addr) (w : World) : (ReflectliteValue.methodAny (ReflectliteValue.valueError "reflectlite.Value.Type" 0) (fun t _ _ _ => ReflectliteType.toType t) #[.agg #[.pointer (some ⟨18, 162, none⟩), .pointer (some a), .int .u64 150]]).run Tryd.prog w
    = .ok (.iface 201 (.agg #[.pointer (some ⟨18, 162, none⟩)])) w := by kernel_rfl
theorem kindPL (w : World) : ((ReflectliteType.abiMethod fun t => (fun a : Nat => Value.int IntKind.u8 (a : Int)) <$> Rtype.kind t) #[.pointer (some ⟨18, 162, none⟩)]).run Tryd.prog w = .ok (.int .u8 22) w := by kernel_rfl
theorem kindEL (w : World) : ((ReflectliteType.abiMethod fun t => (fun a : Nat => Value.int IntKind.u8 (a : Int)) <$> Rtype.kind t) #[.pointer (some ⟨18, 131, none⟩)]).run Tryd.prog w = .ok (.int .u8 25) w := by kernel_rfl
theorem partsPL (a : Addr) (w : World) : (ReflectliteValue.parts (.agg #[.pointer (some ⟨18, 162, none⟩), .pointer (some a), .int .u64 150])).run Tryd.prog w = .ok (some (162, a, 150)) w := by kernel_rfl
theorem isNilPL (a p : Addr) (W : World) (ha : W.cell? a = some (.pointer (some p))) :
    (ReflectliteValue.method (ReflectliteValue.valueError "reflectlite.Value.IsNil" 0) ReflectliteValue.isNil #[.agg #[.pointer (some ⟨18, 162, none⟩), .pointer (some a), .int .u64 150]]).run Tryd.prog W = .ok (.bool false) W := by
  rw [rlm]
  simp only [Sem.run_bind, partsPL, Result.andThen]
  simp [ReflectliteValue.isNil, loadVar, isAgg, underlying, Tryd.underlying162, ha, Result.andThen]
theorem elemPL (w : World) : (ReflectliteType.method ReflectliteType.elem #[.agg #[.pointer (some ⟨18, 162, none⟩)]]).run Tryd.prog w = .ok (.iface 201 (.agg #[.pointer (some ⟨18, 131, none⟩)])) w := by kernel_rfl
theorem implEL (w : World) : (ReflectliteType.relation "Implements" ReflectliteType.implements_ #[.agg #[.pointer (some ⟨18, 131, none⟩)], .iface 201 (.agg #[.pointer (some ⟨18, 114, none⟩)])]).run Tryd.prog w = .ok (.bool true) w := by kernel_rfl
theorem typeOfEL (v : Value) (w : World) : (ReflectliteType.typeOf #[.iface 131 v]).run Tryd.prog w = .ok (.iface 201 (.agg #[.pointer (some ⟨18, 131, none⟩)])) w := by kernel_rfl
theorem assignEL (w : World) : (ReflectliteType.relation "AssignableTo" ReflectliteType.assignableTo #[.agg #[.pointer (some ⟨18, 131, none⟩)], .iface 201 (.agg #[.pointer (some ⟨18, 131, none⟩)])]).run Tryd.prog w = .ok (.bool true) w := by kernel_rfl
theorem valueOfEL (x : Int) (ty : TypeId) (p : Value) (w : World) : (ReflectliteValue.unpack (.iface 131 (.agg #[.int .i64 x, .iface ty p]))).run Tryd.prog w
    = .ok (.agg #[.pointer (some ⟨18, 131, none⟩), .pointer (some ⟨w.heap.size, 0, none⟩), .int .u64 153]) (w.alloc (.cells #[.int .i64 x, .iface ty p] 131)) := by kernel_rfl
theorem elemOfPL (w : World) : (Rtype.elem? 162).run Tryd.prog w = .ok (some 131) w := by kernel_rfl
theorem mkEL (p : Addr) (w : World) : (ReflectliteValue.mk 131 p ReflectliteValue.flagAddr).run Tryd.prog w = .ok (.agg #[.pointer (some ⟨18, 131, none⟩), .pointer (some p), .int .u64 409]) w := by kernel_rfl
theorem elemVL (a p : Addr) (W : World) (ha : W.cell? a = some (.pointer (some p))) :
    (ReflectliteValue.method (ReflectliteValue.valueError "reflectlite.Value.Elem" 0) ReflectliteValue.elem #[.agg #[.pointer (some ⟨18, 162, none⟩), .pointer (some a), .int .u64 150]]).run Tryd.prog W
      = .ok (.agg #[.pointer (some ⟨18, 131, none⟩), .pointer (some p), .int .u64 409]) W := by
  rw [rlm]
  simp only [Sem.run_bind, partsPL, Result.andThen]
  simp [ReflectliteValue.elem, loadVar, isAgg, underlying, Tryd.underlying162, ha, Result.andThen, elemOfPL, mkEL]
theorem partsEaL (a : Addr) (w : World) : (ReflectliteValue.parts (.agg #[.pointer (some ⟨18, 131, none⟩), .pointer (some a), .int .u64 409])).run Tryd.prog w = .ok (some (131, a, 409)) w := by kernel_rfl
theorem partsEL (a : Addr) (w : World) : (ReflectliteValue.parts (.agg #[.pointer (some ⟨18, 131, none⟩), .pointer (some a), .int .u64 153])).run Tryd.prog w = .ok (some (131, a, 153)) w := by kernel_rfl
theorem directEL (w : World) : (Rtype.directlyAssignable 131 131).run Tryd.prog w = .ok true w := by kernel_rfl
theorem setEL (t b : Nat) (x : Int) (ty : TypeId) (p o0 o1 : Value) (W : World) (T : TypeId) (fr : Nat × Nat) (hb : W.heap[b]? = some (.cells #[.int .i64 x, .iface ty p] T fr)) (ht0 : W.cell? ⟨t, 0, none⟩ = some o0) (ht1 : W.cell? ⟨t, 1, none⟩ = some o1) (hf0 : W.frozen? ⟨t, 0, none⟩ = false) (hf1 : W.frozen? ⟨t, 1, none⟩ = false) :
    (ReflectliteValue.set #[.agg #[.pointer (some ⟨18, 131, none⟩), .pointer (some ⟨t, 0, none⟩), .int .u64 409], .agg #[.pointer (some ⟨18, 131, none⟩), .pointer (some ⟨b, 0, none⟩), .int .u64 153]]).run Tryd.prog W
      = .ok (.tuple #[]) ((W.setCell ⟨t, 0, none⟩ (.int .i64 x)).setCell ⟨t, 1, none⟩ (.iface ty p)) := by
  rw [rls]
  simp only [Sem.run_bind, partsEaL, partsEL, Result.andThen]
  have hl : (loadVar 131 ⟨b, 0, none⟩).run Tryd.prog W = .ok (.agg #[.int .i64 x, .iface ty p]) W := run_loadVar_row W b T 131 _ fr _ hb Tryd.underlying131 rfl (by kernel_rfl)
  have e1 : (W.setCell ⟨t, 0, none⟩ (.int .i64 x)).cell? ⟨t, 1, none⟩ = some o1 := (World.cell?_setCell_other W ⟨t, 0, none⟩ ⟨t, 1, none⟩ (.int .i64 x) (by simp)).trans ht1
  have e2 : (W.setCell ⟨t, 0, none⟩ (.int .i64 x)).frozen? ⟨t, 1, none⟩ = false := by rw [World.frozen?_setCell]; exact hf1
  simp [ReflectliteValue.flagAddr, hl, Result.andThen, directEL, storeVar, Value.cells, storeCells, Addr.add]
  rw [run_store Tryd.prog W ⟨t, 0, none⟩ _ _ (by rfl)]
  simp [ht0, hf0, run_store Tryd.prog _ ⟨t, 1, none⟩ (.iface ty p) _ rfl, e1, e2]

/-- What errors.As leaves where it hits: the target's two cells, and new blocks. -/
def HitL (w : World) (t : Nat) (x : Int) (ty : TypeId) (p : Value) (w' : World) : Prop := ∃ w4, w.grownBy w4 none ∧ w' = (w4.setCell ⟨t, 0, none⟩ (.int .i64 x)).setCell ⟨t, 1, none⟩ (.iface ty p)
set_option maxHeartbeats 8000000 in
theorem as_hitL (x : Int) (ty : TypeId) (p : Value) (t G : Nat) (o0 o1 : Value) (w : World) (hE : ErrT G w) (ht0 : w.cell? ⟨t, 0, none⟩ = some o0) (ht1 : w.cell? ⟨t, 1, none⟩ = some o1) (hf0 : w.frozen? ⟨t, 0, none⟩ = false) (hf1 : w.frozen? ⟨t, 1, none⟩ = false) :
    Calls Tryd.prog 82 #[.iface 131 (.agg #[.int .i64 x, .iface ty p]), .iface 162 (.pointer (some ⟨t, 0, none⟩))] w fun ev w' => ev = .returned (.bool true) ∧ HitL w t x ty p w' := by
  have hg := hE.2
  have h6 := @run_callFunc_extern Tryd.prog 103 _ (fun args => ReflectliteValue.unpack (args.getD 0 (.tuple #[]))) Tryd.func103 (by kernel_rfl) (by kernel_rfl) (by kernel_rfl) (by kernel_rfl)
  have h7 := @run_callFunc_extern Tryd.prog 104 _ (ReflectliteValue.methodAny (ReflectliteValue.valueError "reflectlite.Value.Type" 0) (fun t _ _ _ => ReflectliteType.toType t)) Tryd.func104 (by kernel_rfl) (by kernel_rfl) (by kernel_rfl) (by kernel_rfl)
  have h8 := @run_callFunc_extern Tryd.prog 105 _ (ReflectliteValue.method (ReflectliteValue.valueError "reflectlite.Value.IsNil" 0) ReflectliteValue.isNil) Tryd.func105 (by kernel_rfl) (by kernel_rfl) (by kernel_rfl) (by kernel_rfl)
  have h27 := @run_callFunc_extern Tryd.prog 143 _ (ReflectliteType.abiMethod fun t => do pure (.int .u8 (← Rtype.kind t))) Tryd.func143 (by kernel_rfl) (by kernel_rfl) (by kernel_rfl) (by kernel_rfl)
  have h37 := @run_callFunc_extern Tryd.prog 158 _ (ReflectliteType.method ReflectliteType.elem) Tryd.func158 (by kernel_rfl) (by kernel_rfl) (by kernel_rfl) (by kernel_rfl)
  have h38 := @run_callFunc_extern Tryd.prog 159 _ (ReflectliteType.relation "Implements" ReflectliteType.implements_) Tryd.func159 (by kernel_rfl) (by kernel_rfl) (by kernel_rfl) (by kernel_rfl)
  have h10 := @run_callFunc_extern Tryd.prog 118 _ ReflectliteType.typeOf Tryd.func118 (by kernel_rfl) (by kernel_rfl) (by kernel_rfl) (by kernel_rfl)
  have h35 := @run_callFunc_extern Tryd.prog 156 _ (ReflectliteType.relation "AssignableTo" ReflectliteType.assignableTo) Tryd.func156 (by kernel_rfl) (by kernel_rfl) (by kernel_rfl) (by kernel_rfl)
  have h11 := @run_callFunc_extern Tryd.prog 119 _ (ReflectliteValue.method (ReflectliteValue.valueError "reflectlite.Value.Elem" 0) ReflectliteValue.elem) Tryd.func119 (by kernel_rfl) (by kernel_rfl) (by kernel_rfl) (by kernel_rfl)
  have h12 := @run_callFunc_extern Tryd.prog 120 _ ReflectliteValue.set Tryd.func120 (by kernel_rfl) (by kernel_rfl) (by kernel_rfl) (by kernel_rfl)
  have tO := typeOfEL
  have mA := methodAssignableTo
  have a25 := assignEL
  have v25 := valueOfEL
  have f6 := valueOfPL
  have f7 := typePL
  have mK := methodKind
  have mE := methodElem
  have mI := methodImplements
  have k27 := kindPL
  have k25 := kindEL
  have e27 := elemPL
  have i25 := implEL
  obtain ⟨W1, hW1⟩ : ∃ W1, W1 = (w.alloc (.cells #[.pointer (some ⟨t, 0, none⟩)] 162)) := ⟨_, rfl⟩
  have n8 := isNilPL ⟨w.heap.size, 0, none⟩ ⟨t, 0, none⟩ ((w.alloc (.cells #[.pointer (some ⟨t, 0, none⟩)] 162)).alloc (.cells #[.pointer (some ⟨18, 162, none⟩), .pointer (some ⟨w.heap.size, 0, none⟩), .int .u64 150] 180)) (by simp)
  have hlt : 9 < w.heap.size := World.block_lt_of_cell? w _ hg
  have hg2 : ((w.alloc (.cells #[.pointer (some ⟨t, 0, none⟩)] 162)).alloc (.cells #[.pointer (some ⟨18, 162, none⟩), .pointer (some ⟨w.heap.size, 0, none⟩), .int .u64 150] 180)).cell? ⟨9, 0, none⟩ = some (.iface 201 (.agg #[.pointer (some ⟨18, 114, none⟩)])) := by
    rw [World.cell?_alloc_lt _ _ ⟨9, 0, none⟩ (by simp; omega), World.cell?_alloc_lt _ _ ⟨9, 0, none⟩ hlt]; exact hg
  have htl : t < w.heap.size := World.block_lt_of_cell? w _ ht0
  have el := elemVL ⟨w.heap.size, 0, none⟩ ⟨t, 0, none⟩ (((w.alloc (.cells #[.pointer (some ⟨t, 0, none⟩)] 162)).alloc (.cells #[.pointer (some ⟨18, 162, none⟩), .pointer (some ⟨w.heap.size, 0, none⟩), .int .u64 150] 180)).alloc (.cells #[.pointer (some ⟨18, 162, none⟩), .pointer (some ⟨w.heap.size, 0, none⟩), .int .u64 150] 180)) (by rw [World.cell?_alloc_lt _ _ ⟨w.heap.size, 0, none⟩ (by simp; omega)]; simp)
  obtain ⟨W4, hW4⟩ : ∃ W4, W4 = ((((w.alloc (.cells #[.pointer (some ⟨t, 0, none⟩)] 162)).alloc (.cells #[.pointer (some ⟨18, 162, none⟩), .pointer (some ⟨w.heap.size, 0, none⟩), .int .u64 150] 180)).alloc (.cells #[.pointer (some ⟨18, 162, none⟩), .pointer (some ⟨w.heap.size, 0, none⟩), .int .u64 150] 180)).alloc (.cells #[.int .i64 x, .iface ty p] 131)) := ⟨_, rfl⟩
  have gr : w.grownBy W4 none := by rw [hW4]; exact (((World.grownBy_alloc _ _ _).trans (World.grownBy_alloc _ _ _)).trans (World.grownBy_alloc _ _ _)).trans (World.grownBy_alloc _ _ _)
  have st := setEL t (w.heap.size + 1 + 1 + 1) x ty p o0 o1 W4 131 (0, 0) (by rw [hW4]; simpa using heap_alloc_new (((w.alloc (.cells #[.pointer (some ⟨t, 0, none⟩)] 162)).alloc (.cells #[.pointer (some ⟨18, 162, none⟩), .pointer (some ⟨w.heap.size, 0, none⟩), .int .u64 150] 180)).alloc (.cells #[.pointer (some ⟨18, 162, none⟩), .pointer (some ⟨w.heap.size, 0, none⟩), .int .u64 150] 180)) (.cells #[.int .i64 x, .iface ty p] 131))
    (gr.cell ht0 (by simp)) (gr.cell ht1 (by simp)) ((gr.frozen_far ⟨t, 0, none⟩ htl (by simp)).trans hf0) ((gr.frozen_far ⟨t, 1, none⟩ htl (by simp)).trans hf1)
  have GR := Lib.hid gr
  have HW4 := Lib.hid hW4
  rw [hW4] at st
  clear hW1 hW4 gr W1 ht0 ht1 hf0 hf1
  go_enter Tryd.func82, Tryd.ntmps82
  go_wp2
  refine wp_loop_rounds 1 ?_
  rw [rounds_succ]
  go_wp2
  go_ret
  exact ⟨rfl, W4, GR.out, by rw [HW4.out]⟩
end Go.Proofs.YthdaibmminibhaaDoor
