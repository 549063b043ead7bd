/- Contracts of the two orders of values. Contracts of the texts of values: how a text is written between quotes. Asked: at most 60 bytes. errors.As at parse's refusal (as XStAs at store's). -/
import Derived.Test.YtddbnmiennjnlaaGreatDoorZk01
import Derived.Deep.RegionHeld3
import Derived.Deep.RegionWith
import Derived.Deep.QuietTactic
import Derived.BigQuiet
import Derived.Test.YtddbnmiennjnlaaGreatDoorZk02
import Derived.Test.YtddbnmiennjnlaaGreatDoorZk03
namespace Go.Proofs.YtddbnmiennjnlaaGreatDoor
open Go.RowKit

theorem drop_bytes (a : ByteArray) (k : Nat) (h : k < a.size) : a.data.toList.drop k = a[k] :: a.data.toList.drop (k + 1) := by
  rw [List.drop_eq_getElem_cons (by simpa using h)]; rfl
theorem cb_lt {a b : ByteArray} {k : Nat} (ha : k < a.size) (hb : k < b.size) (h : a[k].toNat < b[k].toNat) : Lib.compareBytes (a.data.toList.drop k) (b.data.toList.drop k) = -1 := by
  rw [drop_bytes a k ha, drop_bytes b k hb]
  simp only [Lib.compareBytes]
  rw [if_pos (UInt8.lt_iff_toNat_lt.2 h)]
theorem cb_gt {a b : ByteArray} {k : Nat} (ha : k < a.size) (hb : k < b.size) (h : b[k].toNat < a[k].toNat) : Lib.compareBytes (a.data.toList.drop k) (b.data.toList.drop k) = 1 := by
  rw [drop_bytes a k ha, drop_bytes b k hb]
  simp only [Lib.compareBytes]
  rw [if_neg (by rw [UInt8.lt_iff_toNat_lt]; omega), if_pos (UInt8.lt_iff_toNat_lt.2 h)]
theorem cb_eq {a b : ByteArray} {k : Nat} (ha : k < a.size) (hb : k < b.size) (h : ¬ a[k].toNat < b[k].toNat) (h' : ¬ b[k].toNat < a[k].toNat) : Lib.compareBytes (a.data.toList.drop k) (b.data.toList.drop k) = Lib.compareBytes (a.data.toList.drop (k + 1)) (b.data.toList.drop (k + 1)) := by
  rw [drop_bytes a k ha, drop_bytes b k hb]
  simp only [Lib.compareBytes]
  rw [if_neg (by rw [UInt8.lt_iff_toNat_lt]; omega), if_neg (by rw [UInt8.lt_iff_toNat_lt]; omega)]
theorem drop_end (a : ByteArray) (k : Nat) (h : a.size ≤ k) : a.data.toList.drop k = [] := List.drop_of_length_le (by simpa using h)
theorem cb_end {a b : ByteArray} {k : Nat} (ha : k ≤ a.size) (hb : k ≤ b.size) (h : ¬ (k < a.size ∧ k < b.size)) : Lib.compareBytes (a.data.toList.drop k) (b.data.toList.drop k) = cmp3 (a.size : Int) (b.size : Int) := by
  unfold cmp3
  by_cases h1 : k < a.size
  · have h2 : ¬ k < b.size := fun h2 => h ⟨h1, h2⟩
    rw [drop_bytes a k h1, drop_end b k (by omega), if_neg (by omega), if_pos (by omega)]; rfl
  · by_cases h2 : k < b.size
    · rw [drop_bytes b k h2, drop_end a k (by omega), if_pos (by omega)]; rfl
    · rw [drop_end a k (by omega), drop_end b k (by omega), if_neg (by omega), if_neg (by omega)]; rfl

/-- The document's order of two values, by their cells. -/
def ordV (ak an : Int) (sa : ByteArray) (bk bn : Int) (sb : ByteArray) : Int :=
  if ak ≠ bk then cmp3 ak bk else if ak = 1 ∨ ak = 2 then cmp3 an bn else if ak = 3 then Lib.compareBytes sa.data.toList sb.data.toList else 0

theorem below2 (w : World) (o1 o2 : Obj) : Below w.heap.size w ((w.alloc o1).alloc o2) := ((Below.refl _ _).alloc (Nat.le_refl _) _).alloc (by simp) _

end Go.Proofs.YtddbnmiennjnlaaGreatDoor
namespace Go.Proofs.YtddbnmiennjnlaaGreatDoor
open Go.RowKit

/-- The digit of a number from 0 to 15. -/
def hexd (n : Nat) : UInt8 := if n < 10 then UInt8.ofNat (48 + n) else UInt8.ofNat (87 + n)
/-- Is a byte written as itself? -/
def plainB (c : Nat) : Bool := decide (32 ≤ c) && decide (c ≤ 126) && (c != 92)
/-- How one byte is written. -/
def q1 (c : UInt8) : List UInt8 := if c = 39 then [39, 39] else if plainB c.toNat then [c] else [92, hexd (c.toNat / 16), hexd (c.toNat % 16)]
def qs (l : List UInt8) : List UInt8 := l.flatMap q1

set_option maxHeartbeats 400000 in
theorem readable_any (c : Nat) (w : World) (h : c < 256) :
    Calls Tryz.prog 150 #[.int .u8 c] w fun e w' => e = .returned (.bool (plainB c)) ∧ w = w' := by
  go_enter Tryz.func150, Tryz.ntmps150
  go_wp2
  all_goals (go_ret; refine ⟨ret_bool ?_, rfl⟩; unfold plainB; rw [Bool.eq_iff_iff]; simp; omega)

theorem q1_len (c : UInt8) : (q1 c).length ≤ 3 := by
  unfold q1
  split
  · simp
  · split <;> simp
theorem qs_len (l : List UInt8) : (qs l).length ≤ 3 * l.length := by
  induction l with
  | nil => simp [qs]
  | cons c l ih =>
    have := q1_len c
    simp only [qs, List.flatMap_cons, List.length_append, List.length_cons] at ih ⊢
    omega
theorem take_snoc (s : ByteArray) (k : Nat) (h : k < s.size) : s.data.toList.take (k + 1) = s.data.toList.take k ++ [s[k]] := by
  rw [List.take_succ_eq_append_getElem (by simpa using h)]; rfl
theorem qs_snoc (s : ByteArray) (k : Nat) (h : k < s.size) : qs (s.data.toList.take (k + 1)) = qs (s.data.toList.take k) ++ q1 s[k] := by
  rw [take_snoc s k h]; simp [qs]
theorem qs_take_len (s : ByteArray) (k : Nat) (hk : k ≤ 60) : (39 :: qs (s.data.toList.take k)).length ≤ 200 := by
  have h1 := qs_len (s.data.toList.take k)
  have h2 : (s.data.toList.take k).length ≤ k := List.length_take_le _ _
  simp only [List.length_cons]
  omega
theorem byte_lt (u : UInt8) : u.toNat < 256 := u.toNat_lt

theorem ret_string {a b : List UInt8} (h : a = b) : Ending.returned (.string ⟨a.toArray⟩) = .returned (.string ⟨b.toArray⟩) := by rw [h]
theorem dig_at (n : Nat) (h : n < 16) : (⟨#[48, 49, 50, 51, 52, 53, 54, 55, 56, 57, 97, 98, 99, 100, 101, 102]⟩ : ByteArray)[n]'h = hexd n := by
  have : ∀ i : Fin 16, (⟨#[48, 49, 50, 51, 52, 53, 54, 55, 56, 57, 97, 98, 99, 100, 101, 102]⟩ : ByteArray)[i.val]'i.isLt = hexd i.val := by decide +kernel
  exact this ⟨n, h⟩
theorem ne_quote {u : UInt8} (hu : ((u.toNat : Int) == 39) = false) : u ≠ 39 := by
  rintro rfl
  exact absurd hu (by decide)
end Go.Proofs.YtddbnmiennjnlaaGreatDoor
namespace Go.Proofs.YtddbnmiennjnlaaGreatDoor
open Go.RowKit Go.Extern.Stop Go.Stop Go.Extern
namespace ParR

theorem valueOfPR (t : Addr) (w : World) : (ReflectliteValue.unpack (.iface 78 (.pointer (some t)))).run Tryz.prog w
    = .ok (.agg #[.pointer (some ⟨16, 78, none⟩), .pointer (some ⟨w.heap.size, 0, none⟩), .int .u64 150]) (w.alloc (.cells #[.pointer (some t)] 78)) := by kernel_rfl
theorem typePR (a : Addr) (w : World) : (ReflectliteValue.methodAny (ReflectliteValue.valueError "reflectlite.Value.Type" 0) (fun t _ _ _ => ReflectliteType.toType t) #[.agg #[.pointer (some ⟨16, 78, none⟩), .pointer (some a), .int .u64 150]]).run Tryz.prog w
    = .ok (.iface 137 (.agg #[.pointer (some ⟨16, 78, none⟩)])) w := by kernel_rfl
theorem kindPR (w : World) : ((ReflectliteType.abiMethod fun t => (fun a : Nat => Value.int IntKind.u8 (a : Int)) <$> Rtype.kind t) #[.pointer (some ⟨16, 78, none⟩)]).run Tryz.prog w = .ok (.int .u8 22) w := by kernel_rfl
theorem kindER (w : World) : ((ReflectliteType.abiMethod fun t => (fun a : Nat => Value.int IntKind.u8 (a : Int)) <$> Rtype.kind t) #[.pointer (some ⟨16, 75, none⟩)]).run Tryz.prog w = .ok (.int .u8 2) w := by kernel_rfl
theorem partsPR (a : Addr) (w : World) : (ReflectliteValue.parts (.agg #[.pointer (some ⟨16, 78, none⟩), .pointer (some a), .int .u64 150])).run Tryz.prog w = .ok (some (78, a, 150)) w := by kernel_rfl
theorem isNilPR (a p : Addr) (W : World) (ha : W.cell? a = some (.pointer (some p))) :
    (ReflectliteValue.method (ReflectliteValue.valueError "reflectlite.Value.IsNil" 0) ReflectliteValue.isNil #[.agg #[.pointer (some ⟨16, 78, none⟩), .pointer (some a), .int .u64 150]]).run Tryz.prog W = .ok (.bool false) W := by
  rw [rlm]
  simp only [Sem.run_bind, partsPR, Result.andThen]
  simp [ReflectliteValue.isNil, loadVar, isAgg, underlying, Tryz.underlying78, ha, Result.andThen]
theorem elemPR (w : World) : (ReflectliteType.method ReflectliteType.elem #[.agg #[.pointer (some ⟨16, 78, none⟩)]]).run Tryz.prog w = .ok (.iface 137 (.agg #[.pointer (some ⟨16, 75, none⟩)])) w := by kernel_rfl
theorem implER (w : World) : (ReflectliteType.relation "Implements" ReflectliteType.implements_ #[.agg #[.pointer (some ⟨16, 75, none⟩)], .iface 137 (.agg #[.pointer (some ⟨16, 70, none⟩)])]).run Tryz.prog w = .ok (.bool true) w := by kernel_rfl
theorem typeOfER (v : Value) (w : World) : (ReflectliteType.typeOf #[.iface 75 v]).run Tryz.prog w = .ok (.iface 137 (.agg #[.pointer (some ⟨16, 75, none⟩)])) w := by kernel_rfl
theorem assignER (w : World) : (ReflectliteType.relation "AssignableTo" ReflectliteType.assignableTo #[.agg #[.pointer (some ⟨16, 75, none⟩)], .iface 137 (.agg #[.pointer (some ⟨16, 75, none⟩)])]).run Tryz.prog w = .ok (.bool true) w := by kernel_rfl
theorem valueOfER (x : Int) (w : World) : (ReflectliteValue.unpack (.iface 75 (.int .i64 x))).run Tryz.prog w
    = .ok (.agg #[.pointer (some ⟨16, 75, none⟩), .pointer (some ⟨w.heap.size, 0, none⟩), .int .u64 130]) (w.alloc (.cells #[.int .i64 x] 75)) := by kernel_rfl
theorem elemOfPR (w : World) : (Rtype.elem? 78).run Tryz.prog w = .ok (some 75) w := by kernel_rfl
theorem mkER (p : Addr) (w : World) : (ReflectliteValue.mk 75 p ReflectliteValue.flagAddr).run Tryz.prog w = .ok (.agg #[.pointer (some ⟨16, 75, none⟩), .pointer (some p), .int .u64 386]) w := by kernel_rfl
theorem elemVR (a p : Addr) (W : World) (ha : W.cell? a = some (.pointer (some p))) :
    (ReflectliteValue.method (ReflectliteValue.valueError "reflectlite.Value.Elem" 0) ReflectliteValue.elem #[.agg #[.pointer (some ⟨16, 78, none⟩), .pointer (some a), .int .u64 150]]).run Tryz.prog W
      = .ok (.agg #[.pointer (some ⟨16, 75, none⟩), .pointer (some p), .int .u64 386]) W := by
  rw [rlm]
  simp only [Sem.run_bind, partsPR, Result.andThen]
  simp [ReflectliteValue.elem, loadVar, isAgg, underlying, Tryz.underlying78, ha, Result.andThen, elemOfPR, mkER]
theorem partsEaR (a : Addr) (w : World) : (ReflectliteValue.parts (.agg #[.pointer (some ⟨16, 75, none⟩), .pointer (some a), .int .u64 386])).run Tryz.prog w = .ok (some (75, a, 386)) w := by kernel_rfl
theorem partsER (a : Addr) (w : World) : (ReflectliteValue.parts (.agg #[.pointer (some ⟨16, 75, none⟩), .pointer (some a), .int .u64 130])).run Tryz.prog w = .ok (some (75, a, 130)) w := by kernel_rfl
theorem directER (w : World) : (Rtype.directlyAssignable 75 75).run Tryz.prog w = .ok true w := by kernel_rfl
theorem setER (t b : Nat) (x : Int) (o0 : Value) (W : World) (hb : W.cell? ⟨b, 0, none⟩ = some (.int .i64 x)) (ht0 : W.cell? ⟨t, 0, none⟩ = some o0) (hf0 : W.frozen? ⟨t, 0, none⟩ = false) :
    (ReflectliteValue.set #[.agg #[.pointer (some ⟨16, 75, none⟩), .pointer (some ⟨t, 0, none⟩), .int .u64 386], .agg #[.pointer (some ⟨16, 75, none⟩), .pointer (some ⟨b, 0, none⟩), .int .u64 130]]).run Tryz.prog W
      = .ok (.tuple #[]) (W.setCell ⟨t, 0, none⟩ (.int .i64 x)) := by
  rw [rls]
  simp only [Sem.run_bind, partsEaR, partsER, Result.andThen]
  have hl : (loadVar 75 ⟨b, 0, none⟩).run Tryz.prog W = .ok (.int .i64 x) W := by simp [loadVar, isAgg, underlying, Tryz.underlying75, hb, Result.andThen]
  simp [ReflectliteValue.flagAddr, hl, Result.andThen, directER, storeVar, Value.cells, storeCells, Addr.add]
  rw [run_store Tryz.prog W ⟨t, 0, none⟩ _ _ (by rfl)]
  simp [ht0, hf0]
/-- What errors.As leaves where it hits: the target's cell, and new blocks. -/
def HitR (w : World) (t : Nat) (x : Int) (w' : World) : Prop := ∃ w4, w.grownBy w4 none ∧ w' = w4.setCell ⟨t, 0, none⟩ (.int .i64 x)
theorem typeOfEW (v : Value) (w : World) : (ReflectliteType.typeOf #[.iface 74 v]).run Tryz.prog w = .ok (.iface 137 (.agg #[.pointer (some ⟨16, 74, none⟩)])) w := by kernel_rfl
theorem assignEW (w : World) : (ReflectliteType.relation "AssignableTo" ReflectliteType.assignableTo #[.agg #[.pointer (some ⟨16, 74, none⟩)], .iface 137 (.agg #[.pointer (some ⟨16, 75, none⟩)])]).run Tryz.prog w = .ok (.bool false) w := by kernel_rfl
theorem lacksAsW (p : Value) (w : World) : (Instr.typeAssert (.iface 74 p) 70 142 true).run Tryz.prog w = .ok (.tuple #[.nilIface, .bool false]) w := run_typeAssert_lacksB Tryz.underlying142 (by kernel_rfl) (by kernel_rfl) p 70 w
set_option maxHeartbeats 8000000 in
theorem as_hitR (x : Int) (t G : Nat) (o0 : Value) (w : World) (hE : ErrT G w) (ht0 : w.cell? ⟨t, 0, none⟩ = some o0) (hf0 : w.frozen? ⟨t, 0, none⟩ = false) :
    Calls Tryz.prog 22 #[.iface 75 (.int .i64 x), .iface 78 (.pointer (some ⟨t, 0, none⟩))] w fun ev w' => ev = .returned (.bool true) ∧ HitR w t x w' := by
  have hg := hE.2
  have h6 := @run_callFunc_extern Tryz.prog 37 _ (fun args => ReflectliteValue.unpack (args.getD 0 (.tuple #[]))) Tryz.func37 (by kernel_rfl) (by kernel_rfl) (by kernel_rfl) (by kernel_rfl)
  have h7 := @run_callFunc_extern Tryz.prog 38 _ (ReflectliteValue.methodAny (ReflectliteValue.valueError "reflectlite.Value.Type" 0) (fun t _ _ _ => ReflectliteType.toType t)) Tryz.func38 (by kernel_rfl) (by kernel_rfl) (by kernel_rfl) (by kernel_rfl)
  have h8 := @run_callFunc_extern Tryz.prog 39 _ (ReflectliteValue.method (ReflectliteValue.valueError "reflectlite.Value.IsNil" 0) ReflectliteValue.isNil) Tryz.func39 (by kernel_rfl) (by kernel_rfl) (by kernel_rfl) (by kernel_rfl)
  have h27 := @run_callFunc_extern Tryz.prog 207 _ (ReflectliteType.abiMethod fun t => do pure (.int .u8 (← Rtype.kind t))) Tryz.func207 (by kernel_rfl) (by kernel_rfl) (by kernel_rfl) (by kernel_rfl)
  have h37 := @run_callFunc_extern Tryz.prog 223 _ (ReflectliteType.method ReflectliteType.elem) Tryz.func223 (by kernel_rfl) (by kernel_rfl) (by kernel_rfl) (by kernel_rfl)
  have h38 := @run_callFunc_extern Tryz.prog 224 _ (ReflectliteType.relation "Implements" ReflectliteType.implements_) Tryz.func224 (by kernel_rfl) (by kernel_rfl) (by kernel_rfl) (by kernel_rfl)
  have h10 := @run_callFunc_extern Tryz.prog 66 _ ReflectliteType.typeOf Tryz.func66 (by kernel_rfl) (by kernel_rfl) (by kernel_rfl) (by kernel_rfl)
  have h35 := @run_callFunc_extern Tryz.prog 221 _ (ReflectliteType.relation "AssignableTo" ReflectliteType.assignableTo) Tryz.func221 (by kernel_rfl) (by kernel_rfl) (by kernel_rfl) (by kernel_rfl)
  have h11 := @run_callFunc_extern Tryz.prog 67 _ (ReflectliteValue.method (ReflectliteValue.valueError "reflectlite.Value.Elem" 0) ReflectliteValue.elem) Tryz.func67 (by kernel_rfl) (by kernel_rfl) (by kernel_rfl) (by kernel_rfl)
  have h12 := @run_callFunc_extern Tryz.prog 68 _ ReflectliteValue.set Tryz.func68 (by kernel_rfl) (by kernel_rfl) (by kernel_rfl) (by kernel_rfl)
  have tO := typeOfER
  have mA := methodAssignableTo
  have a25 := assignER
  have v25 := valueOfER
  have f6 := valueOfPR
  have f7 := typePR
  have mK := methodKind
  have mE := methodElem
  have mI := methodImplements
  have k27 := kindPR
  have k25 := kindER
  have e27 := elemPR
  have i25 := implER
  have n8 := isNilPR ⟨w.heap.size, 0, none⟩ ⟨t, 0, none⟩ ((w.alloc (.cells #[.pointer (some ⟨t, 0, none⟩)] 78)).alloc (.cells #[.pointer (some ⟨16, 78, none⟩), .pointer (some ⟨w.heap.size, 0, none⟩), .int .u64 150] 104)) (by simp)
  have hlt : 0 < w.heap.size := World.block_lt_of_cell? w _ hg
  have hg2 : ((w.alloc (.cells #[.pointer (some ⟨t, 0, none⟩)] 78)).alloc (.cells #[.pointer (some ⟨16, 78, none⟩), .pointer (some ⟨w.heap.size, 0, none⟩), .int .u64 150] 104)).cell? ⟨0, 0, none⟩ = some (.iface 137 (.agg #[.pointer (some ⟨16, 70, none⟩)])) := by
    rw [World.cell?_alloc_lt _ _ ⟨0, 0, none⟩ (by first | (simp; done) | (simp; omega)), World.cell?_alloc_lt _ _ ⟨0, 0, none⟩ hlt]; exact hg
  have htl : t < w.heap.size := World.block_lt_of_cell? w _ ht0
  have el := elemVR ⟨w.heap.size, 0, none⟩ ⟨t, 0, none⟩ (((w.alloc (.cells #[.pointer (some ⟨t, 0, none⟩)] 78)).alloc (.cells #[.pointer (some ⟨16, 78, none⟩), .pointer (some ⟨w.heap.size, 0, none⟩), .int .u64 150] 104)).alloc (.cells #[.pointer (some ⟨16, 78, none⟩), .pointer (some ⟨w.heap.size, 0, none⟩), .int .u64 150] 104)) (by rw [World.cell?_alloc_lt _ _ ⟨w.heap.size, 0, none⟩ (by first | (simp; done) | (simp; omega))]; simp)
  obtain ⟨W4, hW4⟩ : ∃ W4, W4 = ((((w.alloc (.cells #[.pointer (some ⟨t, 0, none⟩)] 78)).alloc (.cells #[.pointer (some ⟨16, 78, none⟩), .pointer (some ⟨w.heap.size, 0, none⟩), .int .u64 150] 104)).alloc (.cells #[.pointer (some ⟨16, 78, none⟩), .pointer (some ⟨w.heap.size, 0, none⟩), .int .u64 150] 104)).alloc (.cells #[.int .i64 x] 75)) := ⟨_, rfl⟩
  have gr : w.grownBy W4 none := by rw [hW4]; exact (((World.grownBy_alloc _ _ _).trans (World.grownBy_alloc _ _ _)).trans (World.grownBy_alloc _ _ _)).trans (World.grownBy_alloc _ _ _)
  have e4 := heap_alloc_new (((w.alloc (.cells #[.pointer (some ⟨t, 0, none⟩)] 78)).alloc (.cells #[.pointer (some ⟨16, 78, none⟩), .pointer (some ⟨w.heap.size, 0, none⟩), .int .u64 150] 104)).alloc (.cells #[.pointer (some ⟨16, 78, none⟩), .pointer (some ⟨w.heap.size, 0, none⟩), .int .u64 150] 104)) (.cells #[.int .i64 x] 75)
  have sz3 : (((w.alloc (.cells #[.pointer (some ⟨t, 0, none⟩)] 78)).alloc (.cells #[.pointer (some ⟨16, 78, none⟩), .pointer (some ⟨w.heap.size, 0, none⟩), .int .u64 150] 104)).alloc (.cells #[.pointer (some ⟨16, 78, none⟩), .pointer (some ⟨w.heap.size, 0, none⟩), .int .u64 150] 104)).heap.size = w.heap.size + 1 + 1 + 1 := by simp
  rw [sz3, ← hW4] at e4
  have st := setER t (w.heap.size + 1 + 1 + 1) x o0 W4 (cell_of_row _ _ 0 _ _ _ e4) (gr.cell ht0 (by simp)) ((gr.frozen_far ⟨t, 0, none⟩ htl (by simp)).trans hf0)
  have GR := Lib.hid gr
  have HW4 := Lib.hid hW4
  rw [hW4] at st
  clear hW4 gr ht0 hf0 e4 sz3
  go_enter Tryz.func22, Tryz.ntmps22
  go_wp2
  refine wp_loop_rounds 1 ?_
  rw [rounds_succ]
  go_wp2
  go_ret
  exact ⟨rfl, W4, GR.out, by rw [HW4.out]⟩
end ParR
end Go.Proofs.YtddbnmiennjnlaaGreatDoor
