/- errors.As at the store's refusal: an error that is one, and one that is wrapped in a fault. What schema's full and malformed answer at any table: good or not. tree's turnedRight and turnedLeft. -/
import Derived.Test.YtnfpomjcofhppaaGreatDoorZb06
import Derived.Test.YtnfpomjcofhppaaGreatDoorZb07
import Derived.Deep.DeepCutAuto
namespace Go.Proofs.YtnfpomjcofhppaaGreatDoor
open Go.RowKit Go.Extern.Stop Go.Stop Go.Extern

theorem valueOfPR (t : Addr) (w : World) : (ReflectliteValue.unpack (.iface 92 (.pointer (some t)))).run Tryz.prog w
    = .ok (.agg #[.pointer (some ⟨10, 92, none⟩), .pointer (some ⟨w.heap.size, 0, none⟩), .int .u64 150]) (w.alloc (.cells #[.pointer (some t)] 92)) := by kernel_rfl
theorem typePR (a : Addr) (w : World) : (ReflectliteValue.methodAny (ReflectliteValue.valueError "reflectlite.Value.Type" 0) (fun t _ _ _ => ReflectliteType.toType t) #[.agg #[.pointer (some ⟨10, 92, none⟩), .pointer (some a), .int .u64 150]]).run Tryz.prog w
    = .ok (.iface 151 (.agg #[.pointer (some ⟨10, 92, none⟩)])) w := by kernel_rfl
theorem kindPR (w : World) : ((ReflectliteType.abiMethod fun t => (fun a : Nat => Value.int IntKind.u8 (a : Int)) <$> Rtype.kind t) #[.pointer (some ⟨10, 92, none⟩)]).run Tryz.prog w = .ok (.int .u8 22) w := by kernel_rfl
theorem kindER (w : World) : ((ReflectliteType.abiMethod fun t => (fun a : Nat => Value.int IntKind.u8 (a : Int)) <$> Rtype.kind t) #[.pointer (some ⟨10, 87, none⟩)]).run Tryz.prog w = .ok (.int .u8 2) w := by kernel_rfl
theorem partsPR (a : Addr) (w : World) : (ReflectliteValue.parts (.agg #[.pointer (some ⟨10, 92, none⟩), .pointer (some a), .int .u64 150])).run Tryz.prog w = .ok (some (92, a, 150)) w := by kernel_rfl
theorem isNilPR (a p : Addr) (W : World) (ha : W.cell? a = some (.pointer (some p))) :
    (ReflectliteValue.method (ReflectliteValue.valueError "reflectlite.Value.IsNil" 0) ReflectliteValue.isNil #[.agg #[.pointer (some ⟨10, 92, none⟩), .pointer (some a), .int .u64 150]]).run Tryz.prog W = .ok (.bool false) W := by
  rw [rlm]
  simp only [Sem.run_bind, partsPR, Result.andThen]
  simp [ReflectliteValue.isNil, loadVar, isAgg, underlying, Tryz.underlying92, ha, Result.andThen]
theorem elemPR (w : World) : (ReflectliteType.method ReflectliteType.elem #[.agg #[.pointer (some ⟨10, 92, none⟩)]]).run Tryz.prog w = .ok (.iface 151 (.agg #[.pointer (some ⟨10, 87, none⟩)])) w := by kernel_rfl
theorem implER (w : World) : (ReflectliteType.relation "Implements" ReflectliteType.implements_ #[.agg #[.pointer (some ⟨10, 87, none⟩)], .iface 151 (.agg #[.pointer (some ⟨10, 90, none⟩)])]).run Tryz.prog w = .ok (.bool true) w := by kernel_rfl
theorem typeOfER (v : Value) (w : World) : (ReflectliteType.typeOf #[.iface 87 v]).run Tryz.prog w = .ok (.iface 151 (.agg #[.pointer (some ⟨10, 87, none⟩)])) w := by kernel_rfl
theorem assignER (w : World) : (ReflectliteType.relation "AssignableTo" ReflectliteType.assignableTo #[.agg #[.pointer (some ⟨10, 87, none⟩)], .iface 151 (.agg #[.pointer (some ⟨10, 87, none⟩)])]).run Tryz.prog w = .ok (.bool true) w := by kernel_rfl
theorem valueOfER (x : Int) (w : World) : (ReflectliteValue.unpack (.iface 87 (.int .i64 x))).run Tryz.prog w
    = .ok (.agg #[.pointer (some ⟨10, 87, none⟩), .pointer (some ⟨w.heap.size, 0, none⟩), .int .u64 130]) (w.alloc (.cells #[.int .i64 x] 87)) := by kernel_rfl
theorem elemOfPR (w : World) : (Rtype.elem? 92).run Tryz.prog w = .ok (some 87) w := by kernel_rfl
theorem mkER (p : Addr) (w : World) : (ReflectliteValue.mk 87 p ReflectliteValue.flagAddr).run Tryz.prog w = .ok (.agg #[.pointer (some ⟨10, 87, none⟩), .pointer (some p), .int .u64 386]) w := by kernel_rfl
theorem elemVR (a p : Addr) (W : World) (ha : W.cell? a = some (.pointer (some p))) :
    (ReflectliteValue.method (ReflectliteValue.valueError "reflectlite.Value.Elem" 0) ReflectliteValue.elem #[.agg #[.pointer (some ⟨10, 92, none⟩), .pointer (some a), .int .u64 150]]).run Tryz.prog W
      = .ok (.agg #[.pointer (some ⟨10, 87, none⟩), .pointer (some p), .int .u64 386]) W := by
  rw [rlm]
  simp only [Sem.run_bind, partsPR, Result.andThen]
  simp [ReflectliteValue.elem, loadVar, isAgg, underlying, Tryz.underlying92, ha, Result.andThen, elemOfPR, mkER]
theorem partsEaR (a : Addr) (w : World) : (ReflectliteValue.parts (.agg #[.pointer (some ⟨10, 87, none⟩), .pointer (some a), .int .u64 386])).run Tryz.prog w = .ok (some (87, a, 386)) w := by kernel_rfl
theorem partsER (a : Addr) (w : World) : (ReflectliteValue.parts (.agg #[.pointer (some ⟨10, 87, none⟩), .pointer (some a), .int .u64 130])).run Tryz.prog w = .ok (some (87, a, 130)) w := by kernel_rfl
theorem directER (w : World) : (Rtype.directlyAssignable 87 87).run Tryz.prog w = .ok true w := by kernel_rfl
theorem setER (t b : Nat) (x : Int) (o0 : Value) (W : World) (hb : W.cell? ⟨b, 0, none⟩ = some (.int .i64 x)) (ht0 : W.cell? ⟨t, 0, none⟩ = some o0) (hf0 : W.frozen? ⟨t, 0, none⟩ = false) :
    (ReflectliteValue.set #[.agg #[.pointer (some ⟨10, 87, none⟩), .pointer (some ⟨t, 0, none⟩), .int .u64 386], .agg #[.pointer (some ⟨10, 87, none⟩), .pointer (some ⟨b, 0, none⟩), .int .u64 130]]).run Tryz.prog W
      = .ok (.tuple #[]) (W.setCell ⟨t, 0, none⟩ (.int .i64 x)) := by
  rw [rls]
  simp only [Sem.run_bind, partsEaR, partsER, Result.andThen]
  have hl : (loadVar 87 ⟨b, 0, none⟩).run Tryz.prog W = .ok (.int .i64 x) W := by simp [loadVar, isAgg, underlying, Tryz.underlying87, hb, Result.andThen]
  simp [ReflectliteValue.flagAddr, hl, Result.andThen, directER, storeVar, Value.cells, storeCells, Addr.add]
  rw [run_store Tryz.prog W ⟨t, 0, none⟩ _ _ (by rfl)]
  simp [ht0, hf0]
/-- What errors.As leaves where it hits: the target's cell, and new blocks. -/
def HitR (w : World) (t : Nat) (x : Int) (w' : World) : Prop := ∃ w4, w.grownBy w4 none ∧ w' = w4.setCell ⟨t, 0, none⟩ (.int .i64 x)
theorem typeOfEW (v : Value) (w : World) : (ReflectliteType.typeOf #[.iface 132 v]).run Tryz.prog w = .ok (.iface 151 (.agg #[.pointer (some ⟨10, 132, none⟩)])) w := by kernel_rfl
theorem assignEW (w : World) : (ReflectliteType.relation "AssignableTo" ReflectliteType.assignableTo #[.agg #[.pointer (some ⟨10, 132, none⟩)], .iface 151 (.agg #[.pointer (some ⟨10, 87, none⟩)])]).run Tryz.prog w = .ok (.bool false) w := by kernel_rfl
theorem lacksAsW (p : Value) (w : World) : (Instr.typeAssert (.iface 132 p) 90 156 true).run Tryz.prog w = .ok (.tuple #[.nilIface, .bool false]) w := run_typeAssert_lacksB Tryz.underlying156 (by kernel_rfl) (by kernel_rfl) p 90 w
set_option maxHeartbeats 8000000 in
theorem as_hitR (x : Int) (t G : Nat) (o0 : Value) (w : World) (hE : ErrT G w) (ht0 : w.cell? ⟨t, 0, none⟩ = some o0) (hf0 : w.frozen? ⟨t, 0, none⟩ = false) :
    Calls Tryz.prog 24 #[.iface 87 (.int .i64 x), .iface 92 (.pointer (some ⟨t, 0, none⟩))] w fun ev w' => ev = .returned (.bool true) ∧ HitR w t x w' := by
  have hg := hE.2
  have h6 := @run_callFunc_extern Tryz.prog 40 _ (fun args => ReflectliteValue.unpack (args.getD 0 (.tuple #[]))) Tryz.func40 (by kernel_rfl) (by kernel_rfl) (by kernel_rfl) (by kernel_rfl)
  have h7 := @run_callFunc_extern Tryz.prog 41 _ (ReflectliteValue.methodAny (ReflectliteValue.valueError "reflectlite.Value.Type" 0) (fun t _ _ _ => ReflectliteType.toType t)) Tryz.func41 (by kernel_rfl) (by kernel_rfl) (by kernel_rfl) (by kernel_rfl)
  have h8 := @run_callFunc_extern Tryz.prog 42 _ (ReflectliteValue.method (ReflectliteValue.valueError "reflectlite.Value.IsNil" 0) ReflectliteValue.isNil) Tryz.func42 (by kernel_rfl) (by kernel_rfl) (by kernel_rfl) (by kernel_rfl)
  have h27 := @run_callFunc_extern Tryz.prog 132 _ (ReflectliteType.abiMethod fun t => do pure (.int .u8 (← Rtype.kind t))) Tryz.func132 (by kernel_rfl) (by kernel_rfl) (by kernel_rfl) (by kernel_rfl)
  have h37 := @run_callFunc_extern Tryz.prog 147 _ (ReflectliteType.method ReflectliteType.elem) Tryz.func147 (by kernel_rfl) (by kernel_rfl) (by kernel_rfl) (by kernel_rfl)
  have h38 := @run_callFunc_extern Tryz.prog 148 _ (ReflectliteType.relation "Implements" ReflectliteType.implements_) Tryz.func148 (by kernel_rfl) (by kernel_rfl) (by kernel_rfl) (by kernel_rfl)
  have h10 := @run_callFunc_extern Tryz.prog 59 _ ReflectliteType.typeOf Tryz.func59 (by kernel_rfl) (by kernel_rfl) (by kernel_rfl) (by kernel_rfl)
  have h35 := @run_callFunc_extern Tryz.prog 145 _ (ReflectliteType.relation "AssignableTo" ReflectliteType.assignableTo) Tryz.func145 (by kernel_rfl) (by kernel_rfl) (by kernel_rfl) (by kernel_rfl)
  have h11 := @run_callFunc_extern Tryz.prog 60 _ (ReflectliteValue.method (ReflectliteValue.valueError "reflectlite.Value.Elem" 0) ReflectliteValue.elem) Tryz.func60 (by kernel_rfl) (by kernel_rfl) (by kernel_rfl) (by kernel_rfl)
  have h12 := @run_callFunc_extern Tryz.prog 61 _ ReflectliteValue.set Tryz.func61 (by kernel_rfl) (by kernel_rfl) (by kernel_rfl) (by kernel_rfl)
  have tO := typeOfER
  have mA := methodAssignableTo
  have a25 := assignER
  have v25 := valueOfER
  have f6 := valueOfPR
  have f7 := typePR
  have mK := methodKind
  have mE := methodElem
  have mI := methodImplements
  have k27 := kindPR
  have k25 := kindER
  have e27 := elemPR
  have i25 := implER
  have n8 := isNilPR ⟨w.heap.size, 0, none⟩ ⟨t, 0, none⟩ ((w.alloc (.cells #[.pointer (some ⟨t, 0, none⟩)] 92)).alloc (.cells #[.pointer (some ⟨10, 92, none⟩), .pointer (some ⟨w.heap.size, 0, none⟩), .int .u64 150] 120)) (by simp)
  have hlt : 0 < w.heap.size := World.block_lt_of_cell? w _ hg
  have hg2 : ((w.alloc (.cells #[.pointer (some ⟨t, 0, none⟩)] 92)).alloc (.cells #[.pointer (some ⟨10, 92, none⟩), .pointer (some ⟨w.heap.size, 0, none⟩), .int .u64 150] 120)).cell? ⟨0, 0, none⟩ = some (.iface 151 (.agg #[.pointer (some ⟨10, 90, none⟩)])) := by
    rw [World.cell?_alloc_lt _ _ ⟨0, 0, none⟩ (by first | (simp; done) | (simp; omega)), World.cell?_alloc_lt _ _ ⟨0, 0, none⟩ hlt]; exact hg
  have htl : t < w.heap.size := World.block_lt_of_cell? w _ ht0
  have el := elemVR ⟨w.heap.size, 0, none⟩ ⟨t, 0, none⟩ (((w.alloc (.cells #[.pointer (some ⟨t, 0, none⟩)] 92)).alloc (.cells #[.pointer (some ⟨10, 92, none⟩), .pointer (some ⟨w.heap.size, 0, none⟩), .int .u64 150] 120)).alloc (.cells #[.pointer (some ⟨10, 92, none⟩), .pointer (some ⟨w.heap.size, 0, none⟩), .int .u64 150] 120)) (by rw [World.cell?_alloc_lt _ _ ⟨w.heap.size, 0, none⟩ (by first | (simp; done) | (simp; omega))]; simp)
  obtain ⟨W4, hW4⟩ : ∃ W4, W4 = ((((w.alloc (.cells #[.pointer (some ⟨t, 0, none⟩)] 92)).alloc (.cells #[.pointer (some ⟨10, 92, none⟩), .pointer (some ⟨w.heap.size, 0, none⟩), .int .u64 150] 120)).alloc (.cells #[.pointer (some ⟨10, 92, none⟩), .pointer (some ⟨w.heap.size, 0, none⟩), .int .u64 150] 120)).alloc (.cells #[.int .i64 x] 87)) := ⟨_, rfl⟩
  have gr : w.grownBy W4 none := by rw [hW4]; exact (((World.grownBy_alloc _ _ _).trans (World.grownBy_alloc _ _ _)).trans (World.grownBy_alloc _ _ _)).trans (World.grownBy_alloc _ _ _)
  have e4 := heap_alloc_new (((w.alloc (.cells #[.pointer (some ⟨t, 0, none⟩)] 92)).alloc (.cells #[.pointer (some ⟨10, 92, none⟩), .pointer (some ⟨w.heap.size, 0, none⟩), .int .u64 150] 120)).alloc (.cells #[.pointer (some ⟨10, 92, none⟩), .pointer (some ⟨w.heap.size, 0, none⟩), .int .u64 150] 120)) (.cells #[.int .i64 x] 87)
  have sz3 : (((w.alloc (.cells #[.pointer (some ⟨t, 0, none⟩)] 92)).alloc (.cells #[.pointer (some ⟨10, 92, none⟩), .pointer (some ⟨w.heap.size, 0, none⟩), .int .u64 150] 120)).alloc (.cells #[.pointer (some ⟨10, 92, none⟩), .pointer (some ⟨w.heap.size, 0, none⟩), .int .u64 150] 120)).heap.size = w.heap.size + 1 + 1 + 1 := by simp
  rw [sz3, ← hW4] at e4
  have st := setER t (w.heap.size + 1 + 1 + 1) x o0 W4 (cell_of_row _ _ 0 _ _ _ e4) (gr.cell ht0 (by simp)) ((gr.frozen_far ⟨t, 0, none⟩ htl (by simp)).trans hf0)
  have GR := Lib.hid gr
  have HW4 := Lib.hid hW4
  rw [hW4] at st
  clear hW4 gr ht0 hf0 e4 sz3
  go_enter Tryz.func24, Tryz.ntmps24
  go_wp2
  refine wp_loop_rounds 1 ?_
  rw [rounds_succ]
  go_wp2
  go_ret
  exact ⟨rfl, W4, GR.out, by rw [HW4.out]⟩
end Go.Proofs.YtnfpomjcofhppaaGreatDoor
namespace Go.Proofs.YtnfpomjcofhppaaGreatDoor
open Go.RowKit

/-- The variables of schema's reasons hold errors. -/
structure WhyG (w : World) : Prop where
  many : ∃ ty p, w.cell? ⟨1, 0, none⟩ = some (.iface ty p)
  width : ∃ ty p, w.cell? ⟨2, 0, none⟩ = some (.iface ty p)
  name : ∃ ty p, w.cell? ⟨3, 0, none⟩ = some (.iface ty p)
  kind : ∃ ty p, w.cell? ⟨5, 0, none⟩ = some (.iface ty p)
  keys : ∃ ty p, w.cell? ⟨4, 0, none⟩ = some (.iface ty p)
  null : ∃ ty p, w.cell? ⟨6, 0, none⟩ = some (.iface ty p)
  table : ∃ ty p, w.cell? ⟨7, 0, none⟩ = some (.iface ty p)
  twice : ∃ ty p, w.cell? ⟨8, 0, none⟩ = some (.iface ty p)
theorem WhyG.grown {w w' : World} (h : WhyG w) (hg : w.grownBy w' none) : WhyG w' :=
  ⟨h.many.imp fun _ h => h.imp fun _ h => hg.cell h (by simp), h.width.imp fun _ h => h.imp fun _ h => hg.cell h (by simp), h.name.imp fun _ h => h.imp fun _ h => hg.cell h (by simp), h.kind.imp fun _ h => h.imp fun _ h => hg.cell h (by simp), h.keys.imp fun _ h => h.imp fun _ h => hg.cell h (by simp), h.null.imp fun _ h => h.imp fun _ h => hg.cell h (by simp), h.table.imp fun _ h => h.imp fun _ h => hg.cell h (by simp), h.twice.imp fun _ h => h.imp fun _ h => hg.cell h (by simp)⟩
set_option maxHeartbeats 1600000 in
theorem full_none (num c : Nat) (N : ByteArray) (a : Option Addr) (K : Int) (ty : TypeId) (p : Value) (w : World) (h6 : num < 6) (hE : w.cell? ⟨2, 0, none⟩ = some (.iface ty p)) :
    Calls Tryz.prog 72 #[.int .i64 num, .agg #[.string N, .slice a 0 c, .int .i64 K]] w fun e w' => e = .returned (.iface ty p) ∧ w.grownBy w' none := by
  have h6' : (num : Int) < 6 := by omega
  have hE2 : ∀ o, (w.alloc o).cell? ⟨2, 0, none⟩ = some (.iface ty p) := fun o => (World.grownBy_alloc w o none).cell hE (by simp)
  go_enter Tryz.func72, Tryz.ntmps72
  go_wp2_with fail
  go_ret
  exact ⟨rfl, World.grownBy_alloc _ _ _⟩
/-- full at any table. -/
theorem full_any (num m c : Nat) (N : ByteArray) (a : Option Addr) (K : Int) (w : World) (hw : WhyG w) :
    Calls Tryz.prog 72 #[.int .i64 num, .agg #[.string N, .slice a m c, .int .i64 K]] w fun e w' => ((num < 6 ∧ 1 ≤ m ∧ m ≤ 8) ∧ e = .returned .nilIface ∨ ¬ (num < 6 ∧ 1 ≤ m ∧ m ≤ 8) ∧ ∃ ty p, e = .returned (.iface ty p)) ∧ w.grownBy w' none := by
  by_cases h6 : num < 6
  · by_cases h1 : 1 ≤ m
    · by_cases h8 : m ≤ 8
      · exact (full_ok num m c N a K w h6 h1 h8).mono fun e w' ⟨h, g⟩ => ⟨.inl ⟨⟨h6, h1, h8⟩, h⟩, g⟩
      · obtain ⟨ty, p, hE⟩ := hw.width
        exact (full_wide num m c N a K ty p w h6 (by omega) hE).mono fun e w' ⟨h, g⟩ => ⟨.inr ⟨by omega, ty, p, h⟩, g⟩
    · obtain ⟨ty, p, hE⟩ := hw.width
      obtain rfl : m = 0 := by omega
      exact (full_none num c N a K ty p w h6 hE).mono fun e w' ⟨h, g⟩ => ⟨.inr ⟨by omega, ty, p, h⟩, g⟩
  · obtain ⟨ty, p, hE⟩ := hw.many
    exact (full_many num m c N a K ty p w (by omega) hE).mono fun e w' ⟨h, g⟩ => ⟨.inr ⟨by omega, ty, p, h⟩, g⟩
set_option maxRecDepth 100000 in
set_option maxHeartbeats 1600000 in
theorem malformed_name (a : Option Addr) (m cap : Nat) (N : ByteArray) (K : Int) (ty : TypeId) (p : Value) (w : World) (hN : nameB N = false) (hE : w.cell? ⟨3, 0, none⟩ = some (.iface ty p)) :
    Calls Tryz.prog 73 #[.agg #[.string N, .slice a m cap, .int .i64 K]] w fun e w' => e = .returned (.iface ty p) ∧ w.grownBy w' none := by
  have HN := Lib.hid (fun W => name_any N W)
  rw [hN] at HN
  clear hN
  have hE2 : ∀ o, (w.alloc o).cell? ⟨3, 0, none⟩ = some (.iface ty p) := fun o => (World.grownBy_alloc w o none).cell hE (by simp)
  have K0 := Lib.hid (World.grownBy_alloc w (.cells #[.string N, .slice a m cap, .int .i64 K] 50) none)
  go_enter Tryz.func73, Tryz.ntmps73
  go_wp2_with fail
  refine (HN.out _).mono ?_
  rintro e w1 ⟨rfl, rfl⟩
  go_wp2_with fail
  go_ret
  exact ⟨rfl, K0.out⟩
set_option maxRecDepth 100000 in
set_option maxHeartbeats 3200000 in
/-- The columns' round of malformed, at any columns. -/
theorem malformed_cols (a : Option Addr) (cap : Nat) (l : List Cl) (N : ByteArray) (K : Int) (w : World) (h : ColsAt w.heap.size w a l) (hw : WhyG w) (hN : nameB N = true) (h1 : 1 ≤ K) (h2 : K ≤ l.length) :
    Calls Tryz.prog 73 #[.agg #[.string N, .slice a l.length cap, .int .i64 K]] w fun e w' => ((∀ i, i < l.length → colGood K i (l.getD i default)) ∧ e = .returned .nilIface ∨ (∃ i, i < l.length ∧ ¬ colGood K i (l.getD i default)) ∧ ∃ ty p, e = .returned (.iface ty p)) ∧ w.grownBy w' none := by
  have HN := Lib.hid (fun W => name_any N W)
  rw [hN] at HN
  have HC := Lib.hid (fun M W => name_any M W)
  have H := Lib.hid (h.keep (World.grownBy_alloc w (.cells #[.string N, .slice a l.length cap, .int .i64 K] 50) none) (by simp))
  have HB := Lib.hid (box3_new6 w (.string N) (.slice a l.length cap) (.int .i64 K) 50)
  have HW := Lib.hid hw
  have hlen := h.1
  obtain ⟨n, hn⟩ : ∃ n, n = l.length := ⟨_, rfl⟩
  have Hn := Lib.hid hn
  rw [← hn] at hlen h2 H HB ⊢
  clear h hn hN hw
  have K0 := Lib.hid (World.grownBy_alloc w (.cells #[.string N, .slice a n cap, .int .i64 K] 50) none)
  go_enter Tryz.func73, Tryz.ntmps73
  go_wp2_with fail
  refine (HN.out _).mono ?_
  rintro e w1 ⟨rfl, rfl⟩
  go_wp2_with fail
  go_loopw [25] (fun i wr => ∃ (k : Nat), i = .int .i64 k ∧ k ≤ n ∧ Hid (∀ i, i < k → colGood K i (l.getD i default)) ∧ Hid ((w.alloc (.cells #[.string N, .slice a n cap, .int .i64 K] 50)).grownBy wr none)) (fun i _ => n - (intOf i).toNat)
  case atStart => exact ⟨0, rfl, by omega, Lib.hid (fun i hi => by omega), Lib.hid (grown_refl6 _ _)⟩
  case round =>
    obtain ⟨k, rfl, hk, E, KR⟩ := hrel
    by_cases hlt : k < n
    · obtain ⟨b, off, rfl, _, c0, c1, c2⟩ := (H.out.keep KR.out (by simp)).at (i := k) (by rw [← Hn.out]; exact hlt)
      obtain ⟨g0, g1, g2⟩ := HB.out
      have d0 := KR.out.cell g0 (by simp)
      have d1 := KR.out.cell g1 (by simp)
      have d2 := KR.out.cell g2 (by simp)
      have GW := Lib.hid (fun o => HW.out.grown (K0.out.trans (KR.out.trans (World.grownBy_alloc wr o none))))
      obtain ⟨x, hx⟩ : ∃ x, x = l.getD k default := ⟨_, rfl⟩
      have Hx := Lib.hid hx
      rw [← hx] at c0 c1 c2
      obtain ⟨xn, xk, xb⟩ := x
      simp only at c0 c1 c2
      have HX := Lib.hid (fun W => HC.out xn W)
      have d2' : ∀ o, (wr.alloc o).cell? ⟨w.heap.size, 2, none⟩ = some (.int .i64 K) := fun o => (World.grownBy_alloc wr o none).cell d2 (by simp)
      have Bad : Hid (¬ colGood K k ⟨xn, xk, xb⟩ → ∃ i, i < n ∧ ¬ colGood K i (l.getD i default)) := Lib.hid fun hb => ⟨k, hlt, by rw [← Hx.out]; exact hb⟩
      have Good : Hid (colGood K k ⟨xn, xk, xb⟩ → ∀ i, i < k + 1 → colGood K i (l.getD i default)) := Lib.hid fun hb i hi => by
        by_cases e : i = k
        · rw [e, ← Hx.out]; exact hb
        · exact E.out i (by omega)
      clear hx g0 g1 g2
      by_cases q1 : nameB xn = true
      · rw [q1] at HX
        have Q1 := Lib.hid q1
        clear q1
        by_cases q2 : xk = 1 ∨ xk = 2 ∨ xk = 3
        · have Q2 := Lib.hid q2
          by_cases hK : (k : Int) < K
          · cases xb
            · have hgood := Lib.hid (Good.out ⟨Q1.out, Q2.out, fun _ => rfl⟩)
              rcases q2 with rfl | rfl | rfl
              all_goals
                go_wp2_with fail
                refine (HX.out _).mono ?_
                rintro e w2 ⟨rfl, rfl⟩
                go_wp2_with fail
                go_roundw
                case rel => exact ⟨k + 1, by go_num, by omega, hgood, Lib.hid (KR.out.trans (World.grownBy_alloc _ _ _))⟩
                case measure => simp [intOf]; omega
            · have hbad := Lib.hid (Bad.out (fun h => by have := h.2.2 hK; cases this))
              have hN : ∀ o, ∃ ty p, (wr.alloc o).cell? ⟨6, 0, none⟩ = some (.iface ty p) := fun o => (GW.out o).null
              obtain ⟨ty, p, hN0⟩ := hN (.cells #[.string xn, .int .i64 xk, .bool true] 114)
              clear hN
              rcases q2 with rfl | rfl | rfl
              all_goals
                go_wp2_with fail
                refine (HX.out _).mono ?_
                rintro e w2 ⟨rfl, rfl⟩
                go_wp2_with fail
                go_ret
                exact ⟨.inr ⟨hbad.out, ty, p, rfl⟩, K0.out.trans (KR.out.trans (World.grownBy_alloc _ _ _))⟩
          · have hK' : K ≤ (k : Int) := by omega
            have hgood := Lib.hid (Good.out ⟨Q1.out, Q2.out, fun h => absurd h hK⟩)
            rcases q2 with rfl | rfl | rfl
            all_goals
              go_wp2_with fail
              refine (HX.out _).mono ?_
              rintro e w2 ⟨rfl, rfl⟩
              go_wp2_with fail
              go_roundw
              case rel => exact ⟨k + 1, by go_num, by omega, hgood, Lib.hid (KR.out.trans (World.grownBy_alloc _ _ _))⟩
              case measure => simp [intOf]; omega
        · have hbad := Lib.hid (Bad.out (fun h => q2 h.2.1))
          have n1 : (xk != 1) = true := bne_iff_ne.2 (fun e => q2 (.inl e))
          have n2 : (xk != 2) = true := bne_iff_ne.2 (fun e => q2 (.inr (.inl e)))
          have n3 : (xk != 3) = true := bne_iff_ne.2 (fun e => q2 (.inr (.inr e)))
          obtain ⟨ty, p, hN0⟩ := (GW.out (.cells #[.string xn, .int .i64 xk, .bool xb] 114)).kind
          clear q2
          go_wp2_with fail
          refine (HX.out _).mono ?_
          rintro e w2 ⟨rfl, rfl⟩
          go_wp2_with fail
          go_ret
          exact ⟨.inr ⟨hbad.out, ty, p, rfl⟩, K0.out.trans (KR.out.trans (World.grownBy_alloc _ _ _))⟩
      · have q1' : nameB xn = false := by simpa using q1
        have hbad := Lib.hid (Bad.out (fun h => q1 h.1))
        rw [q1'] at HX
        obtain ⟨ty, p, hN0⟩ := (GW.out (.cells #[.string xn, .int .i64 xk, .bool xb] 114)).name
        clear q1 q1'
        go_wp2_with fail
        refine (HX.out _).mono ?_
        rintro e w2 ⟨rfl, rfl⟩
        go_wp2_with fail
        go_ret
        exact ⟨.inr ⟨hbad.out, ty, p, rfl⟩, K0.out.trans (KR.out.trans (World.grownBy_alloc _ _ _))⟩
    · obtain rfl : k = n := by omega
      go_wp2_with fail
      go_ret
      exact ⟨.inl ⟨E.out, rfl⟩, K0.out.trans KR.out⟩
/-- malformed at any table. -/
theorem malformed_any (a : Option Addr) (cap : Nat) (l : List Cl) (N : ByteArray) (K : Int) (w : World) (h : ColsAt w.heap.size w a l) (hw : WhyG w) :
    Calls Tryz.prog 73 #[.agg #[.string N, .slice a l.length cap, .int .i64 K]] w fun e w' => ((nameB N = true ∧ 1 ≤ K ∧ K ≤ l.length ∧ ∀ i, i < l.length → colGood K i (l.getD i default)) ∧ e = .returned .nilIface ∨ ¬ (nameB N = true ∧ 1 ≤ K ∧ K ≤ l.length ∧ ∀ i, i < l.length → colGood K i (l.getD i default)) ∧ ∃ ty p, e = .returned (.iface ty p)) ∧ w.grownBy w' none := by
  by_cases hN : nameB N = true
  · by_cases hK : 1 ≤ K ∧ K ≤ l.length
    · refine (malformed_cols a cap l N K w h hw hN hK.1 hK.2).mono fun e w' ⟨h, g⟩ => ⟨?_, g⟩
      rcases h with ⟨h1, h2⟩ | ⟨⟨i, hi, hb⟩, h2⟩
      · exact .inl ⟨⟨hN, hK.1, hK.2, h1⟩, h2⟩
      · exact .inr ⟨fun h => hb (h.2.2.2 i hi), h2⟩
    · obtain ⟨ty, p, hE⟩ := hw.keys
      exact (malformed_keys a l.length cap N K ty p w hN (by omega) hE).mono fun e w' ⟨h, g⟩ => ⟨.inr ⟨fun h => hK ⟨h.2.1, h.2.2.1⟩, ty, p, h⟩, g⟩
  · obtain ⟨ty, p, hE⟩ := hw.name
    exact (malformed_name a l.length cap N K ty p w (by simpa using hN) hE).mono fun e w' ⟨h, g⟩ => ⟨.inr ⟨fun h => hN h.1, ty, p, h⟩, g⟩
end Go.Proofs.YtnfpomjcofhppaaGreatDoor
namespace Go.Proofs.YtnfpomjcofhppaaGreatDoor
open Go.RowKit

def Box2 (b : Nat) (W : World) (x y : Value) : Prop := W.cell? ⟨b, 0, none⟩ = some x ∧ W.cell? ⟨b, 1, none⟩ = some y
theorem Box2.keep {b : Nat} {W W' : World} {x y : Value} (h : Box2 b W x y) (hg : W.grownBy W' none) : Box2 b W' x y := ⟨hg.cell h.1 (by simp), hg.cell h.2 (by simp)⟩
theorem Box2.new (w : World) (x y : Value) (T : TypeId) : Box2 w.heap.size (w.alloc (.cells #[x, y] T)) x y := ⟨cell_of_row _ _ 0 _ _ _ (heap_alloc_new w _), cell_of_row _ _ 1 _ _ _ (heap_alloc_new w _)⟩
def Box4 (b : Nat) (W : World) (x y z u : Value) : Prop := W.cell? ⟨b, 0, none⟩ = some x ∧ W.cell? ⟨b, 1, none⟩ = some y ∧ W.cell? ⟨b, 2, none⟩ = some z ∧ W.cell? ⟨b, 3, none⟩ = some u
theorem Box4.keep {b : Nat} {W W' : World} {x y z u : Value} (h : Box4 b W x y z u) (hg : W.grownBy W' none) : Box4 b W' x y z u := ⟨hg.cell h.1 (by simp), hg.cell h.2.1 (by simp), hg.cell h.2.2.1 (by simp), hg.cell h.2.2.2 (by simp)⟩
abbrev Ptr := Option Addr
/-- A call that makes a tree. -/
def Makes (f : FuncId) (args : Array Value) (w : World) (P : World → Ptr → Prop) : Prop :=
  Calls Tryz.prog f args w fun e w' => (∃ q, e = .returned (.pointer q) ∧ P w' q) ∧ w.grownBy w' none
theorem Makes.calls {f : FuncId} {args : Array Value} {w : World} {P : World → Ptr → Prop} (h : Makes f args w P) : Calls Tryz.prog f args w fun e w' => (∃ q, e = .returned (.pointer q) ∧ P w' q) ∧ w.grownBy w' none := h
set_option maxRecDepth 100000 in
set_option maxHeartbeats 6400000 in
theorem turnR_one (b : Nat) (llp lrp rp ka va lka lva : Ptr) (m kc q vc lm lkc lq lvc x y : Nat) (w : World) (P1 P2 : World → Ptr → Prop) (hxy : y ≤ x)
    (HB : Box4 b w (.slice lka lm lkc) (.slice lva lq lvc) (.pointer llp) (.pointer lrp))
    (H1 : Hid (∀ W, w.grownBy W none → Calls Tryz.prog 95 #[.pointer llp] W fun e w' => e = .returned (.int .i64 x) ∧ W = w'))
    (H2 : Hid (∀ W, w.grownBy W none → Calls Tryz.prog 95 #[.pointer lrp] W fun e w' => e = .returned (.int .i64 y) ∧ W = w'))
    (T1 : Hid (∀ W, w.grownBy W none → Makes 98 #[.pointer lrp, .agg #[.slice ka m kc, .slice va q vc], .pointer rp] W P1))
    (T2 : Hid (∀ W p, w.grownBy W none → P1 W p → Makes 98 #[.pointer llp, .agg #[.slice lka lm lkc, .slice lva lq lvc], .pointer p] W P2)) :
    Makes 96 #[.pointer (some ⟨b, 0, none⟩), .agg #[.slice ka m kc, .slice va q vc], .pointer rp] w P2 := by
  have K0 := Lib.hid (World.grownBy_alloc w (.cells #[.slice ka m kc, .slice va q vc] 174) none)
  have B0 := Lib.hid (HB.keep K0.out)
  have X0 := Lib.hid (Box2.new w (.slice ka m kc) (.slice va q vc) 174)
  have F := Lib.hid (fun (W : World) (hW : (w.alloc (.cells #[.slice ka m kc, .slice va q vc] 174)).grownBy W none) => And.intro (B0.out.keep hW) (X0.out.keep hW))
  have hxy' : (y : Int) ≤ x := by omega
  clear hxy HB
  have C0 := Lib.hid (grown_reflT (w.alloc (.cells #[.slice ka m kc, .slice va q vc] 174)) none)
  obtain ⟨b0, b1, b2, b3⟩ := B0.out
  unfold Makes
  go_enter Tryz.func96, Tryz.ntmps96
  go_upto_region 1 with fail
  generalize w.alloc (.cells #[.slice ka m kc, .slice va q vc] 174) = w0 at *
  go_cut [18] (fun s18 wx => s18 = .bool true ∧ Hid (w0.grownBy wx none))
  case first =>
    have Q1 := Lib.hid (fun n => (H1.out (w0.drewN n) (grown_drewNT K0.out n)).mono fun e w'' h => And.intro h.1 h.2.symm)
    have Q2 := Lib.hid (fun n => (H2.out (w0.drewN n) (grown_drewNT K0.out n)).mono fun e w'' h => And.intro h.1 h.2.symm)
    go_quiet ((first | (go_at_call 95; with_reducible exact Calls.quiet_of_same (Q1.out _)) | (go_at_call 95; with_reducible exact Calls.quiet_of_same (Q2.out _))))
    go_wp2_with fail
    go_meet
    exact ⟨by simp, Lib.hid (grown_drewNT C0.out _)⟩
  case rest =>
  obtain ⟨rfl, G0⟩ := hcut
  clear b0 b1 b2 b3 H1 H2 hxy'
  obtain ⟨⟨b0, b1, b2, b3⟩, x0, x1⟩ := F.out _ G0.out
  have T1' := Lib.hid (Makes.calls (T1.out wc.drew (grown_drewT (K0.out.trans G0.out))))
  clear T1
  go_upto_region 2 with fail
  go_region_held3 (fun w' => (w'.cell? ⟨b, 0, none⟩ = some (.slice lka lm lkc) ∧ w'.cell? ⟨b, 1, none⟩ = some (.slice lva lq lvc) ∧ w'.cell? ⟨b, 2, none⟩ = some (.pointer llp) ∧ w'.cell? ⟨b, 3, none⟩ = some (.pointer lrp)) ∧ w'.cell? ⟨w.heap.size, 0, none⟩ = some (.slice ka m kc) ∧ w'.cell? ⟨w.heap.size, 1, none⟩ = some (.slice va q vc)) (first | exact F.out _ G1.out | exact F.out _ (grown_drewT G0.out) | exact F.out _ G2.out) (first
    | (go_at_call 98; (with_reducible refine T1'.out.mono ?_); rintro e w2 ⟨⟨p1, rfl, hp1⟩, hg2⟩; have G1 := Lib.hid ((grown_drewT G0.out).trans hg2); have T2' := Lib.hid (Makes.calls (T2.out _ p1 (K0.out.trans G1.out) hp1)); clear hg2 hp1)
    | (go_at_call 98; (with_reducible refine T2'.out.mono ?_); rintro e w3 ⟨⟨p2, rfl, hp2⟩, hg3⟩; have G2 := Lib.hid (G1.out.trans hg3); have Hp2 := Lib.hid hp2; clear hg3 hp2))
  go_wp2_with fail
  go_ret
  exact ⟨⟨_, rfl, Hp2.out⟩, K0.out.trans G2.out⟩
set_option maxRecDepth 100000 in
set_option maxHeartbeats 6400000 in
theorem turnR_two (b c : Nat) (llp ilp irp rp ka va lka lva ika iva : Ptr) (m kc q vc lm lkc lq lvc im ikc iq ivc x y : Nat) (w : World) (P1 P2 P3 : World → Ptr → Prop) (hxy : x < y)
    (HB : Box4 b w (.slice lka lm lkc) (.slice lva lq lvc) (.pointer llp) (.pointer (some ⟨c, 0, none⟩)))
    (HC : Box4 c w (.slice ika im ikc) (.slice iva iq ivc) (.pointer ilp) (.pointer irp))
    (H1 : Hid (∀ W, w.grownBy W none → Calls Tryz.prog 95 #[.pointer llp] W fun e w' => e = .returned (.int .i64 x) ∧ W = w'))
    (H2 : Hid (∀ W, w.grownBy W none → Calls Tryz.prog 95 #[.pointer (some ⟨c, 0, none⟩)] W fun e w' => e = .returned (.int .i64 y) ∧ W = w'))
    (T1 : Hid (∀ W, w.grownBy W none → Makes 98 #[.pointer llp, .agg #[.slice lka lm lkc, .slice lva lq lvc], .pointer ilp] W P1))
    (T2 : Hid (∀ W, w.grownBy W none → Makes 98 #[.pointer irp, .agg #[.slice ka m kc, .slice va q vc], .pointer rp] W P2))
    (P1k : Hid (∀ W W' p, W.grownBy W' none → P1 W p → P1 W' p)) (P2k : Hid (∀ W W' p, W.grownBy W' none → P2 W p → P2 W' p))
    (T3 : Hid (∀ W p p', w.grownBy W none → P1 W p → P2 W p' → Makes 98 #[.pointer p, .agg #[.slice ika im ikc, .slice iva iq ivc], .pointer p'] W P3)) :
    Makes 96 #[.pointer (some ⟨b, 0, none⟩), .agg #[.slice ka m kc, .slice va q vc], .pointer rp] w P3 := by
  have K0 := Lib.hid (World.grownBy_alloc w (.cells #[.slice ka m kc, .slice va q vc] 174) none)
  have B0 := Lib.hid (HB.keep K0.out)
  have C1 := Lib.hid (HC.keep K0.out)
  have X0 := Lib.hid (Box2.new w (.slice ka m kc) (.slice va q vc) 174)
  have F := Lib.hid (fun (W : World) (hW : (w.alloc (.cells #[.slice ka m kc, .slice va q vc] 174)).grownBy W none) => And.intro (B0.out.keep hW) (And.intro (C1.out.keep hW) (X0.out.keep hW)))
  have hxy' : (x : Int) < y := by omega
  clear hxy HB HC
  have C0 := Lib.hid (grown_reflT (w.alloc (.cells #[.slice ka m kc, .slice va q vc] 174)) none)
  obtain ⟨b0, b1, b2, b3⟩ := B0.out
  unfold Makes
  go_enter Tryz.func96, Tryz.ntmps96
  go_upto_region 1 with fail
  generalize w.alloc (.cells #[.slice ka m kc, .slice va q vc] 174) = w0 at *
  go_cut [18] (fun s18 wx => s18 = .bool false ∧ Hid (w0.grownBy wx none))
  case first =>
    have Q1 := Lib.hid (fun n => (H1.out (w0.drewN n) (grown_drewNT K0.out n)).mono fun e w'' h => And.intro h.1 h.2.symm)
    have Q2 := Lib.hid (fun n => (H2.out (w0.drewN n) (grown_drewNT K0.out n)).mono fun e w'' h => And.intro h.1 h.2.symm)
    go_quiet ((first | (go_at_call 95; with_reducible exact Calls.quiet_of_same (Q1.out _)) | (go_at_call 95; with_reducible exact Calls.quiet_of_same (Q2.out _))))
    go_wp2_with fail
    go_meet
    exact ⟨by simp; try omega, Lib.hid (grown_drewNT C0.out _)⟩
  case rest =>
  obtain ⟨rfl, G0⟩ := hcut
  clear b0 b1 b2 b3 H1 H2 hxy'
  obtain ⟨⟨b0, b1, b2, b3⟩, ⟨c0, c1, c2, c3⟩, x0, x1⟩ := F.out _ G0.out
  have T1' := Lib.hid (fun W hW => Makes.calls (T1.out W (K0.out.trans hW)))
  have T2' := Lib.hid (fun W hW => Makes.calls (T2.out W (K0.out.trans hW)))
  clear T1 T2
  go_upto_region 4 with fail
  go_region_held3 (fun w' => (w'.cell? ⟨b, 0, none⟩ = some (.slice lka lm lkc) ∧ w'.cell? ⟨b, 1, none⟩ = some (.slice lva lq lvc) ∧ w'.cell? ⟨b, 2, none⟩ = some (.pointer llp) ∧ w'.cell? ⟨b, 3, none⟩ = some (.pointer (some ⟨c, 0, none⟩))) ∧ (w'.cell? ⟨c, 0, none⟩ = some (.slice ika im ikc) ∧ w'.cell? ⟨c, 1, none⟩ = some (.slice iva iq ivc) ∧ w'.cell? ⟨c, 2, none⟩ = some (.pointer ilp) ∧ w'.cell? ⟨c, 3, none⟩ = some (.pointer irp)) ∧ w'.cell? ⟨w.heap.size, 0, none⟩ = some (.slice ka m kc) ∧ w'.cell? ⟨w.heap.size, 1, none⟩ = some (.slice va q vc)) (first | exact F.out _ G3.out | exact F.out _ G2.out | exact F.out _ G1.out | exact F.out _ (grown_drewT G0.out)) (first
    | (go_at_call 98; (with_reducible refine (T1'.out _ (by first | exact G2.out | exact grown_drewT G0.out)).mono ?_); rintro e w2 ⟨⟨p1, rfl, hp1⟩, hg2⟩; have G1 := Lib.hid (show w0.grownBy w2 none by first | exact G2.out.trans hg2 | exact (grown_drewT G0.out).trans hg2); have D1 := Lib.hid hp1; have E2 := Lib.hid (fun p h => P2k.out _ _ p hg2 h); clear hg2 hp1)
    | (go_at_call 98; (with_reducible refine (T2'.out _ (by first | exact G1.out | exact grown_drewT G0.out)).mono ?_); rintro e w3 ⟨⟨p2, rfl, hp2⟩, hg3⟩; have G2 := Lib.hid (show w0.grownBy w3 none by first | exact G1.out.trans hg3 | exact (grown_drewT G0.out).trans hg3); have D2 := Lib.hid hp2; have E1 := Lib.hid (fun p h => P1k.out _ _ p hg3 h); clear hg3 hp2)
    | (go_at_call 98; (with_reducible refine (Makes.calls (T3.out _ p1 p2 (by first | exact K0.out.trans G2.out | exact K0.out.trans G1.out) (by first | exact D1.out | exact E1.out _ D1.out) (by first | exact D2.out | exact E2.out _ D2.out))).mono ?_); rintro e w4 ⟨⟨p3, rfl, hp3⟩, hg4⟩; have G3 := Lib.hid (show w0.grownBy w4 none by first | exact G2.out.trans hg4 | exact G1.out.trans hg4); have Hp3 := Lib.hid hp3; clear hg4 hp3))
  all_goals
    go_wp2_with fail
    go_ret
    exact ⟨⟨_, rfl, Hp3.out⟩, K0.out.trans G3.out⟩
set_option maxRecDepth 100000 in
set_option maxHeartbeats 6400000 in
theorem turnL_one (b : Nat) (llp lrp rp ka va lka lva : Ptr) (m kc q vc lm lkc lq lvc x y : Nat) (w : World) (P1 P2 : World → Ptr → Prop) (hxy : x ≤ y)
    (HB : Box4 b w (.slice lka lm lkc) (.slice lva lq lvc) (.pointer llp) (.pointer lrp))
    (H1 : Hid (∀ W, w.grownBy W none → Calls Tryz.prog 95 #[.pointer llp] W fun e w' => e = .returned (.int .i64 x) ∧ W = w'))
    (H2 : Hid (∀ W, w.grownBy W none → Calls Tryz.prog 95 #[.pointer lrp] W fun e w' => e = .returned (.int .i64 y) ∧ W = w'))
    (T1 : Hid (∀ W, w.grownBy W none → Makes 98 #[.pointer rp, .agg #[.slice ka m kc, .slice va q vc], .pointer llp] W P1))
    (T2 : Hid (∀ W p, w.grownBy W none → P1 W p → Makes 98 #[.pointer p, .agg #[.slice lka lm lkc, .slice lva lq lvc], .pointer lrp] W P2)) :
    Makes 97 #[.pointer rp, .agg #[.slice ka m kc, .slice va q vc], .pointer (some ⟨b, 0, none⟩)] w P2 := by
  have K0 := Lib.hid (World.grownBy_alloc w (.cells #[.slice ka m kc, .slice va q vc] 174) none)
  have B0 := Lib.hid (HB.keep K0.out)
  have X0 := Lib.hid (Box2.new w (.slice ka m kc) (.slice va q vc) 174)
  have F := Lib.hid (fun (W : World) (hW : (w.alloc (.cells #[.slice ka m kc, .slice va q vc] 174)).grownBy W none) => And.intro (B0.out.keep hW) (X0.out.keep hW))
  have hxy' : (x : Int) ≤ y := by omega
  clear hxy HB
  have C0 := Lib.hid (grown_reflT (w.alloc (.cells #[.slice ka m kc, .slice va q vc] 174)) none)
  obtain ⟨b0, b1, b2, b3⟩ := B0.out
  unfold Makes
  go_enter Tryz.func97, Tryz.ntmps97
  go_upto_region 1 with fail
  generalize w.alloc (.cells #[.slice ka m kc, .slice va q vc] 174) = w0 at *
  go_cut [18] (fun s18 wx => s18 = .bool true ∧ Hid (w0.grownBy wx none))
  case first =>
    have Q1 := Lib.hid (fun n => (H1.out (w0.drewN n) (grown_drewNT K0.out n)).mono fun e w'' h => And.intro h.1 h.2.symm)
    have Q2 := Lib.hid (fun n => (H2.out (w0.drewN n) (grown_drewNT K0.out n)).mono fun e w'' h => And.intro h.1 h.2.symm)
    go_quiet ((first | (go_at_call 95; with_reducible exact Calls.quiet_of_same (Q1.out _)) | (go_at_call 95; with_reducible exact Calls.quiet_of_same (Q2.out _))))
    go_wp2_with fail
    go_meet
    exact ⟨by simp, Lib.hid (grown_drewNT C0.out _)⟩
  case rest =>
  obtain ⟨rfl, G0⟩ := hcut
  clear b0 b1 b2 b3 H1 H2 hxy'
  obtain ⟨⟨b0, b1, b2, b3⟩, x0, x1⟩ := F.out _ G0.out
  have T1' := Lib.hid (Makes.calls (T1.out wc.drew (grown_drewT (K0.out.trans G0.out))))
  clear T1
  go_upto_region 2 with fail
  go_region_held3 (fun w' => (w'.cell? ⟨b, 0, none⟩ = some (.slice lka lm lkc) ∧ w'.cell? ⟨b, 1, none⟩ = some (.slice lva lq lvc) ∧ w'.cell? ⟨b, 2, none⟩ = some (.pointer llp) ∧ w'.cell? ⟨b, 3, none⟩ = some (.pointer lrp)) ∧ w'.cell? ⟨w.heap.size, 0, none⟩ = some (.slice ka m kc) ∧ w'.cell? ⟨w.heap.size, 1, none⟩ = some (.slice va q vc)) (first | exact F.out _ G1.out | exact F.out _ (grown_drewT G0.out) | exact F.out _ G2.out) (first
    | (go_at_call 98; (with_reducible refine T1'.out.mono ?_); rintro e w2 ⟨⟨p1, rfl, hp1⟩, hg2⟩; have G1 := Lib.hid ((grown_drewT G0.out).trans hg2); have T2' := Lib.hid (Makes.calls (T2.out _ p1 (K0.out.trans G1.out) hp1)); clear hg2 hp1)
    | (go_at_call 98; (with_reducible refine T2'.out.mono ?_); rintro e w3 ⟨⟨p2, rfl, hp2⟩, hg3⟩; have G2 := Lib.hid (G1.out.trans hg3); have Hp2 := Lib.hid hp2; clear hg3 hp2))
  go_wp2_with fail
  go_ret
  exact ⟨⟨_, rfl, Hp2.out⟩, K0.out.trans G2.out⟩
set_option maxRecDepth 100000 in
set_option maxHeartbeats 6400000 in
theorem turnL_two (b c : Nat) (llp ilp irp rp ka va lka lva ika iva : Ptr) (m kc q vc lm lkc lq lvc im ikc iq ivc x y : Nat) (w : World) (P1 P2 P3 : World → Ptr → Prop) (hxy : x < y)
    (HB : Box4 b w (.slice lka lm lkc) (.slice lva lq lvc) (.pointer (some ⟨c, 0, none⟩)) (.pointer llp))
    (HC : Box4 c w (.slice ika im ikc) (.slice iva iq ivc) (.pointer ilp) (.pointer irp))
    (H1 : Hid (∀ W, w.grownBy W none → Calls Tryz.prog 95 #[.pointer llp] W fun e w' => e = .returned (.int .i64 x) ∧ W = w'))
    (H2 : Hid (∀ W, w.grownBy W none → Calls Tryz.prog 95 #[.pointer (some ⟨c, 0, none⟩)] W fun e w' => e = .returned (.int .i64 y) ∧ W = w'))
    (T1 : Hid (∀ W, w.grownBy W none → Makes 98 #[.pointer rp, .agg #[.slice ka m kc, .slice va q vc], .pointer ilp] W P1))
    (T2 : Hid (∀ W, w.grownBy W none → Makes 98 #[.pointer irp, .agg #[.slice lka lm lkc, .slice lva lq lvc], .pointer llp] W P2))
    (P1k : Hid (∀ W W' p, W.grownBy W' none → P1 W p → P1 W' p)) (P2k : Hid (∀ W W' p, W.grownBy W' none → P2 W p → P2 W' p))
    (T3 : Hid (∀ W p p', w.grownBy W none → P1 W p → P2 W p' → Makes 98 #[.pointer p, .agg #[.slice ika im ikc, .slice iva iq ivc], .pointer p'] W P3)) :
    Makes 97 #[.pointer rp, .agg #[.slice ka m kc, .slice va q vc], .pointer (some ⟨b, 0, none⟩)] w P3 := by
  have K0 := Lib.hid (World.grownBy_alloc w (.cells #[.slice ka m kc, .slice va q vc] 174) none)
  have B0 := Lib.hid (HB.keep K0.out)
  have C1 := Lib.hid (HC.keep K0.out)
  have X0 := Lib.hid (Box2.new w (.slice ka m kc) (.slice va q vc) 174)
  have F := Lib.hid (fun (W : World) (hW : (w.alloc (.cells #[.slice ka m kc, .slice va q vc] 174)).grownBy W none) => And.intro (B0.out.keep hW) (And.intro (C1.out.keep hW) (X0.out.keep hW)))
  have hxy' : (x : Int) < y := by omega
  clear hxy HB HC
  have C0 := Lib.hid (grown_reflT (w.alloc (.cells #[.slice ka m kc, .slice va q vc] 174)) none)
  obtain ⟨b0, b1, b2, b3⟩ := B0.out
  unfold Makes
  go_enter Tryz.func97, Tryz.ntmps97
  go_upto_region 1 with fail
  generalize w.alloc (.cells #[.slice ka m kc, .slice va q vc] 174) = w0 at *
  go_cut [18] (fun s18 wx => s18 = .bool false ∧ Hid (w0.grownBy wx none))
  case first =>
    have Q1 := Lib.hid (fun n => (H1.out (w0.drewN n) (grown_drewNT K0.out n)).mono fun e w'' h => And.intro h.1 h.2.symm)
    have Q2 := Lib.hid (fun n => (H2.out (w0.drewN n) (grown_drewNT K0.out n)).mono fun e w'' h => And.intro h.1 h.2.symm)
    go_quiet ((first | (go_at_call 95; with_reducible exact Calls.quiet_of_same (Q1.out _)) | (go_at_call 95; with_reducible exact Calls.quiet_of_same (Q2.out _))))
    go_wp2_with fail
    go_meet
    exact ⟨by simp; try omega, Lib.hid (grown_drewNT C0.out _)⟩
  case rest =>
  obtain ⟨rfl, G0⟩ := hcut
  clear b0 b1 b2 b3 H1 H2 hxy'
  obtain ⟨⟨b0, b1, b2, b3⟩, ⟨c0, c1, c2, c3⟩, x0, x1⟩ := F.out _ G0.out
  have T1' := Lib.hid (fun W hW => Makes.calls (T1.out W (K0.out.trans hW)))
  have T2' := Lib.hid (fun W hW => Makes.calls (T2.out W (K0.out.trans hW)))
  clear T1 T2
  go_upto_region 4 with fail
  go_region_held3 (fun w' => (w'.cell? ⟨b, 0, none⟩ = some (.slice lka lm lkc) ∧ w'.cell? ⟨b, 1, none⟩ = some (.slice lva lq lvc) ∧ w'.cell? ⟨b, 2, none⟩ = some (.pointer (some ⟨c, 0, none⟩)) ∧ w'.cell? ⟨b, 3, none⟩ = some (.pointer llp)) ∧ (w'.cell? ⟨c, 0, none⟩ = some (.slice ika im ikc) ∧ w'.cell? ⟨c, 1, none⟩ = some (.slice iva iq ivc) ∧ w'.cell? ⟨c, 2, none⟩ = some (.pointer ilp) ∧ w'.cell? ⟨c, 3, none⟩ = some (.pointer irp)) ∧ w'.cell? ⟨w.heap.size, 0, none⟩ = some (.slice ka m kc) ∧ w'.cell? ⟨w.heap.size, 1, none⟩ = some (.slice va q vc)) (first | exact F.out _ G3.out | exact F.out _ G2.out | exact F.out _ G1.out | exact F.out _ (grown_drewT G0.out)) (first
    | (go_at_call 98; (with_reducible refine (T1'.out _ (by first | exact G2.out | exact grown_drewT G0.out)).mono ?_); rintro e w2 ⟨⟨p1, rfl, hp1⟩, hg2⟩; have G1 := Lib.hid (show w0.grownBy w2 none by first | exact G2.out.trans hg2 | exact (grown_drewT G0.out).trans hg2); have D1 := Lib.hid hp1; have E2 := Lib.hid (fun p h => P2k.out _ _ p hg2 h); clear hg2 hp1)
    | (go_at_call 98; (with_reducible refine (T2'.out _ (by first | exact G1.out | exact grown_drewT G0.out)).mono ?_); rintro e w3 ⟨⟨p2, rfl, hp2⟩, hg3⟩; have G2 := Lib.hid (show w0.grownBy w3 none by first | exact G1.out.trans hg3 | exact (grown_drewT G0.out).trans hg3); have D2 := Lib.hid hp2; have E1 := Lib.hid (fun p h => P1k.out _ _ p hg3 h); clear hg3 hp2)
    | (go_at_call 98; (with_reducible refine (Makes.calls (T3.out _ p1 p2 (by first | exact K0.out.trans G2.out | exact K0.out.trans G1.out) (by first | exact D1.out | exact E1.out _ D1.out) (by first | exact D2.out | exact E2.out _ D2.out))).mono ?_); rintro e w4 ⟨⟨p3, rfl, hp3⟩, hg4⟩; have G3 := Lib.hid (show w0.grownBy w4 none by first | exact G2.out.trans hg4 | exact G1.out.trans hg4); have Hp3 := Lib.hid hp3; clear hg4 hp3))
  all_goals
    go_wp2_with fail
    go_ret
    exact ⟨⟨_, rfl, Hp3.out⟩, K0.out.trans G3.out⟩
end Go.Proofs.YtnfpomjcofhppaaGreatDoor
