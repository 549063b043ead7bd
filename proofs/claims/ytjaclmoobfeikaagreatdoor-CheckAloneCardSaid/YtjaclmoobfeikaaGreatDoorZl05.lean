/- The fixed fact with which each statement begins is true, at whatever memory; and the contract of value.Text at a text of at most 60 bytes. Plain facts on the order of values: it is the document's at good values, an order, and nought just at equal ones. errors.As at parse's refusal that is wrapped in a fault. -/
import Derived.Test.YtjaclmoobfeikaaGreatDoorZl03
import Derived.Test.YtjaclmoobfeikaaGreatDoorZl04
namespace Go.Proofs.YtjaclmoobfeikaaGreatDoor
open Go.RowKit

end Go.Proofs.YtjaclmoobfeikaaGreatDoor
namespace Go.Proofs.YtjaclmoobfeikaaGreatDoor
open Go.RowKit

/-- What value.Compare answers, by the cells. -/
def ordC (ak an : Int) (sa : ByteArray) (bk bn : Int) (sb : ByteArray) : Int := or3 (cmp3 ak bk) (cmp3 an bn) (Lib.compareBytes sa.data.toList sb.data.toList)

theorem cb_zero : ∀ a b : List UInt8, Lib.compareBytes a b = 0 ↔ a = b
  | [], [] => by simp [Lib.compareBytes]
  | [], _ :: _ => by simp [Lib.compareBytes]
  | _ :: _, [] => by simp [Lib.compareBytes]
  | x :: a, y :: b => by
    have ih := cb_zero a b
    simp only [Lib.compareBytes, UInt8.lt_iff_toNat_lt, List.cons.injEq, ← UInt8.toNat_inj]
    by_cases h1 : x.toNat < y.toNat
    · rw [if_pos h1]; constructor
      · intro h; omega
      · intro h; omega
    · by_cases h2 : y.toNat < x.toNat
      · rw [if_neg h1, if_pos h2]; constructor
        · intro h; omega
        · intro h; omega
      · rw [if_neg h1, if_neg h2, ih]; constructor
        · intro h; exact ⟨by omega, h⟩
        · intro h; exact h.2
theorem cmp3_zero (a b : Int) : cmp3 a b = 0 ↔ a = b := by
  unfold cmp3; (repeat' split) <;> omega
theorem bytes_ext {a b : ByteArray} (h : a.data.toList = b.data.toList) : a = b := by
  cases a; cases b
  simp only [ByteArray.mk.injEq]
  exact Array.toList_inj.1 h
theorem ordC_zero (ak an : Int) (sa : ByteArray) (bk bn : Int) (sb : ByteArray) : ordC ak an sa bk bn sb = 0 ↔ ak = bk ∧ an = bn ∧ sa = sb := by
  have h1 := cmp3_zero ak bk
  have h2 := cmp3_zero an bn
  have h3 := cb_zero sa.data.toList sb.data.toList
  unfold ordC or3
  constructor
  · intro h
    split at h
    · omega
    · split at h
      · omega
      · exact ⟨by omega, by omega, bytes_ext (h3.1 h)⟩
  · rintro ⟨rfl, rfl, rfl⟩
    rw [if_neg (by simp [cmp3]), if_neg (by simp [cmp3])]
    exact h3.2 rfl
end Go.Proofs.YtjaclmoobfeikaaGreatDoor
namespace Go.Proofs.YtjaclmoobfeikaaGreatDoor
open Go.RowKit Go.Extern.Stop Go.Stop Go.Extern
namespace ParR

theorem hasUnwrapW (p : Value) (w : World) : (Instr.typeAssert (.iface 73 p) 69 144 true).run Tryz.prog w = .ok (.tuple #[.iface 73 p, .bool true]) w := run_typeAssert_hasB Tryz.underlying144 (by kernel_rfl) p 69 w
theorem methodUnwrapW (h : Value) (w : World) : (Go.method 397 73 h "Unwrap").run Tryz.prog w = .ok (209, h) w := by kernel_rfl
set_option maxHeartbeats 8000000 in
theorem as_wrapR (pl x : Int) (t G : Nat) (o0 : Value) (w : World) (hE : ErrT G w) (ht0 : w.cell? ⟨t, 0, none⟩ = some o0) (hf0 : w.frozen? ⟨t, 0, none⟩ = false) :
    Calls Tryz.prog 20 #[.iface 73 (.agg #[.int .i64 pl, .iface 74 (.int .i64 x)]), .iface 77 (.pointer (some ⟨t, 0, none⟩))] w fun ev w' => ev = .returned (.bool true) ∧ HitR w t x w' := by
  have hg := hE.2
  have h6 := @run_callFunc_extern Tryz.prog 35 _ (fun args => ReflectliteValue.unpack (args.getD 0 (.tuple #[]))) Tryz.func35 (by kernel_rfl) (by kernel_rfl) (by kernel_rfl) (by kernel_rfl)
  have h7 := @run_callFunc_extern Tryz.prog 36 _ (ReflectliteValue.methodAny (ReflectliteValue.valueError "reflectlite.Value.Type" 0) (fun t _ _ _ => ReflectliteType.toType t)) Tryz.func36 (by kernel_rfl) (by kernel_rfl) (by kernel_rfl) (by kernel_rfl)
  have h8 := @run_callFunc_extern Tryz.prog 37 _ (ReflectliteValue.method (ReflectliteValue.valueError "reflectlite.Value.IsNil" 0) ReflectliteValue.isNil) Tryz.func37 (by kernel_rfl) (by kernel_rfl) (by kernel_rfl) (by kernel_rfl)
  have h27 := @run_callFunc_extern Tryz.prog 205 _ (ReflectliteType.abiMethod fun t => do pure (.int .u8 (← Rtype.kind t))) Tryz.func205 (by kernel_rfl) (by kernel_rfl) (by kernel_rfl) (by kernel_rfl)
  have h37 := @run_callFunc_extern Tryz.prog 221 _ (ReflectliteType.method ReflectliteType.elem) Tryz.func221 (by kernel_rfl) (by kernel_rfl) (by kernel_rfl) (by kernel_rfl)
  have h38 := @run_callFunc_extern Tryz.prog 222 _ (ReflectliteType.relation "Implements" ReflectliteType.implements_) Tryz.func222 (by kernel_rfl) (by kernel_rfl) (by kernel_rfl) (by kernel_rfl)
  have h10 := @run_callFunc_extern Tryz.prog 64 _ ReflectliteType.typeOf Tryz.func64 (by kernel_rfl) (by kernel_rfl) (by kernel_rfl) (by kernel_rfl)
  have h35 := @run_callFunc_extern Tryz.prog 219 _ (ReflectliteType.relation "AssignableTo" ReflectliteType.assignableTo) Tryz.func219 (by kernel_rfl) (by kernel_rfl) (by kernel_rfl) (by kernel_rfl)
  have h11 := @run_callFunc_extern Tryz.prog 65 _ (ReflectliteValue.method (ReflectliteValue.valueError "reflectlite.Value.Elem" 0) ReflectliteValue.elem) Tryz.func65 (by kernel_rfl) (by kernel_rfl) (by kernel_rfl) (by kernel_rfl)
  have h12 := @run_callFunc_extern Tryz.prog 66 _ ReflectliteValue.set Tryz.func66 (by kernel_rfl) (by kernel_rfl) (by kernel_rfl) (by kernel_rfl)
  have tO := typeOfER
  have mA := methodAssignableTo
  have a25 := assignER
  have v25 := valueOfER
  have f6 := valueOfPR
  have f7 := typePR
  have mK := methodKind
  have mE := methodElem
  have mI := methodImplements
  have k27 := kindPR
  have k25 := kindER
  have e27 := elemPR
  have i25 := implER
  have tW := typeOfEW
  have aW := assignEW
  have lW := lacksAsW
  have uW := hasUnwrapW
  have mU := methodUnwrapW
  have n8 := isNilPR ⟨w.heap.size, 0, none⟩ ⟨t, 0, none⟩ ((w.alloc (.cells #[.pointer (some ⟨t, 0, none⟩)] 77)).alloc (.cells #[.pointer (some ⟨16, 77, none⟩), .pointer (some ⟨w.heap.size, 0, none⟩), .int .u64 150] 103)) (by simp)
  have hlt : 0 < w.heap.size := World.block_lt_of_cell? w _ hg
  have hg2 : ((w.alloc (.cells #[.pointer (some ⟨t, 0, none⟩)] 77)).alloc (.cells #[.pointer (some ⟨16, 77, none⟩), .pointer (some ⟨w.heap.size, 0, none⟩), .int .u64 150] 103)).cell? ⟨0, 0, none⟩ = some (.iface 136 (.agg #[.pointer (some ⟨16, 69, none⟩)])) := by
    rw [World.cell?_alloc_lt _ _ ⟨0, 0, none⟩ (by first | (simp; done) | (simp; omega)), World.cell?_alloc_lt _ _ ⟨0, 0, none⟩ hlt]; exact hg
  have htl : t < w.heap.size := World.block_lt_of_cell? w _ ht0
  have e1 : (w.alloc (.cells #[.pointer (some ⟨t, 0, none⟩)] 77)).cell? ⟨w.heap.size, 0, none⟩ = some (.pointer (some ⟨t, 0, none⟩)) := cell_of_row _ _ 0 _ _ _ (heap_alloc_new w _)
  have g14 : (w.alloc (.cells #[.pointer (some ⟨t, 0, none⟩)] 77)).grownBy ((((w.alloc (.cells #[.pointer (some ⟨t, 0, none⟩)] 77)).alloc (.cells #[.pointer (some ⟨16, 77, none⟩), .pointer (some ⟨w.heap.size, 0, none⟩), .int .u64 150] 103)).alloc (.cells #[.pointer (some ⟨16, 77, none⟩), .pointer (some ⟨w.heap.size, 0, none⟩), .int .u64 150] 103)).alloc (.cells #[.int .i64 pl, .iface 74 (.int .i64 x)] 73)) none := ((World.grownBy_alloc _ _ _).trans (World.grownBy_alloc _ _ _)).trans (World.grownBy_alloc _ _ _)
  have el := elemVR ⟨w.heap.size, 0, none⟩ ⟨t, 0, none⟩ ((((w.alloc (.cells #[.pointer (some ⟨t, 0, none⟩)] 77)).alloc (.cells #[.pointer (some ⟨16, 77, none⟩), .pointer (some ⟨w.heap.size, 0, none⟩), .int .u64 150] 103)).alloc (.cells #[.pointer (some ⟨16, 77, none⟩), .pointer (some ⟨w.heap.size, 0, none⟩), .int .u64 150] 103)).alloc (.cells #[.int .i64 pl, .iface 74 (.int .i64 x)] 73)) (g14.cell e1 (by simp))
  obtain ⟨W5, hW5⟩ : ∃ W5, W5 = (((((w.alloc (.cells #[.pointer (some ⟨t, 0, none⟩)] 77)).alloc (.cells #[.pointer (some ⟨16, 77, none⟩), .pointer (some ⟨w.heap.size, 0, none⟩), .int .u64 150] 103)).alloc (.cells #[.pointer (some ⟨16, 77, none⟩), .pointer (some ⟨w.heap.size, 0, none⟩), .int .u64 150] 103)).alloc (.cells #[.int .i64 pl, .iface 74 (.int .i64 x)] 73)).alloc (.cells #[.int .i64 x] 74)) := ⟨_, rfl⟩
  have gr : w.grownBy W5 none := by rw [hW5]; exact ((((World.grownBy_alloc _ _ _).trans (World.grownBy_alloc _ _ _)).trans (World.grownBy_alloc _ _ _)).trans (World.grownBy_alloc _ _ _)).trans (World.grownBy_alloc _ _ _)
  have e5 := heap_alloc_new ((((w.alloc (.cells #[.pointer (some ⟨t, 0, none⟩)] 77)).alloc (.cells #[.pointer (some ⟨16, 77, none⟩), .pointer (some ⟨w.heap.size, 0, none⟩), .int .u64 150] 103)).alloc (.cells #[.pointer (some ⟨16, 77, none⟩), .pointer (some ⟨w.heap.size, 0, none⟩), .int .u64 150] 103)).alloc (.cells #[.int .i64 pl, .iface 74 (.int .i64 x)] 73)) (.cells #[.int .i64 x] 74)
  have sz4 : ((((w.alloc (.cells #[.pointer (some ⟨t, 0, none⟩)] 77)).alloc (.cells #[.pointer (some ⟨16, 77, none⟩), .pointer (some ⟨w.heap.size, 0, none⟩), .int .u64 150] 103)).alloc (.cells #[.pointer (some ⟨16, 77, none⟩), .pointer (some ⟨w.heap.size, 0, none⟩), .int .u64 150] 103)).alloc (.cells #[.int .i64 pl, .iface 74 (.int .i64 x)] 73)).heap.size = w.heap.size + 1 + 1 + 1 + 1 := by simp
  rw [sz4, ← hW5] at e5
  have st := setER t (w.heap.size + 1 + 1 + 1 + 1) x o0 W5 (cell_of_row _ _ 0 _ _ _ e5) (gr.cell ht0 (by simp)) ((gr.frozen_far ⟨t, 0, none⟩ htl (by simp)).trans hf0)
  have GR := Lib.hid gr
  have HW5 := Lib.hid hW5
  rw [hW5] at st
  clear hW5 gr ht0 hf0 e5 sz4 g14 e1
  go_enter Tryz.func20, Tryz.ntmps20
  go_wp2
  refine wp_loop_rounds 2 ?_
  rw [rounds_succ]
  go_wp2
  rw [rounds_succ]
  go_wp2
  go_ret
  exact ⟨rfl, W5, GR.out, by rw [HW5.out]⟩
end ParR
end Go.Proofs.YtjaclmoobfeikaaGreatDoor
