/- Contracts of the texts of values: how a text is written between quotes. Asked: at most 60 bytes. errors.As at parse's refusal (as XStAs at store's). The fixed fact with which each statement begins is true, at whatever memory; and the contract of value.Text at a text of at most 60 bytes. -/
import Derived.Test.YtppigamibgefaaaGreatDoorZp02
import Derived.Test.YtppigamibgefaaaGreatDoorZp03
namespace Go.Proofs.YtppigamibgefaaaGreatDoor
open Go.RowKit

/-- The digit of a number from 0 to 15. -/
def hexd (n : Nat) : UInt8 := if n < 10 then UInt8.ofNat (48 + n) else UInt8.ofNat (87 + n)
/-- Is a byte written as itself? -/
def plainB (c : Nat) : Bool := decide (32 ≤ c) && decide (c ≤ 126) && (c != 92)
/-- How one byte is written. -/
def q1 (c : UInt8) : List UInt8 := if c = 39 then [39, 39] else if plainB c.toNat then [c] else [92, hexd (c.toNat / 16), hexd (c.toNat % 16)]
def qs (l : List UInt8) : List UInt8 := l.flatMap q1

set_option maxHeartbeats 400000 in
theorem readable_any (c : Nat) (w : World) (h : c < 256) :
    Calls Tryz.prog 182 #[.int .u8 c] w fun e w' => e = .returned (.bool (plainB c)) ∧ w = w' := by
  go_enter Tryz.func182, Tryz.ntmps182
  go_wp2
  all_goals (go_ret; refine ⟨ret_bool ?_, rfl⟩; unfold plainB; rw [Bool.eq_iff_iff]; simp; omega)

theorem q1_len (c : UInt8) : (q1 c).length ≤ 3 := by
  unfold q1
  split
  · simp
  · split <;> simp
theorem qs_len (l : List UInt8) : (qs l).length ≤ 3 * l.length := by
  induction l with
  | nil => simp [qs]
  | cons c l ih =>
    have := q1_len c
    simp only [qs, List.flatMap_cons, List.length_append, List.length_cons] at ih ⊢
    omega
theorem take_snoc (s : ByteArray) (k : Nat) (h : k < s.size) : s.data.toList.take (k + 1) = s.data.toList.take k ++ [s[k]] := by
  rw [List.take_succ_eq_append_getElem (by simpa using h)]; rfl
theorem qs_snoc (s : ByteArray) (k : Nat) (h : k < s.size) : qs (s.data.toList.take (k + 1)) = qs (s.data.toList.take k) ++ q1 s[k] := by
  rw [take_snoc s k h]; simp [qs]
theorem qs_take_len (s : ByteArray) (k : Nat) (hk : k ≤ 60) : (39 :: qs (s.data.toList.take k)).length ≤ 200 := by
  have h1 := qs_len (s.data.toList.take k)
  have h2 : (s.data.toList.take k).length ≤ k := List.length_take_le _ _
  simp only [List.length_cons]
  omega
theorem byte_lt (u : UInt8) : u.toNat < 256 := u.toNat_lt

/-- A builder of the call's own, in block B, that holds the bytes l. -/
def QB (B : Nat) (l : List UInt8) (w : World) : Prop := Lib.IsBuilder 109 5 B B (Lib.byteCells l) w

theorem QB.lt {B : Nat} {l : List UInt8} {w : World} (h : QB B l w) : B < w.heap.size := by
  rcases h with h | h <;> exact h.lt

theorem ws_any (B : Nat) (l : List UInt8) (s : ByteArray) (w : World) (h : QB B l w) (hl : l.length ≤ 1000) (hs : s.size ≤ 1000) :
    Calls Tryz.prog 46 #[.pointer (some ⟨B, 0, none⟩), .string s] w fun e w' => e = .returned (.tuple #[.int .i64 s.size, .nilIface]) ∧ QB B (l ++ s.data.toList) w' ∧ Below B w w' := by
  refine (writeString_any B B (Lib.byteCells l) s w h (by rw [Lib.byteCells_length]; omega) (Nat.le_of_lt h.lt)).mono ?_
  rintro e w' ⟨rfl, h1, h2⟩
  refine ⟨rfl, Or.inr ?_, h2⟩
  rw [Lib.byteCells_append]
  exact h1

theorem ret_string {a b : List UInt8} (h : a = b) : Ending.returned (.string ⟨a.toArray⟩) = .returned (.string ⟨b.toArray⟩) := by rw [h]
theorem dig_at (n : Nat) (h : n < 16) : (⟨#[48, 49, 50, 51, 52, 53, 54, 55, 56, 57, 97, 98, 99, 100, 101, 102]⟩ : ByteArray)[n]'h = hexd n := by
  have : ∀ i : Fin 16, (⟨#[48, 49, 50, 51, 52, 53, 54, 55, 56, 57, 97, 98, 99, 100, 101, 102]⟩ : ByteArray)[i.val]'i.isLt = hexd i.val := by decide +kernel
  exact this ⟨n, h⟩
theorem q_quote {B : Nat} {l : List UInt8} {u : UInt8} {w : World} (h : QB B (39 :: l ++ [39, 39]) w) (hu : ((u.toNat : Int) == 39) = true) : QB B (39 :: (l ++ q1 u)) w := by
  have e : u = 39 := by
    have : u.toNat = 39 := by have := beq_iff_eq.1 hu; omega
    exact UInt8.toNat_inj.1 this
  subst e
  exact h
theorem ne_quote {u : UInt8} (hu : ((u.toNat : Int) == 39) = false) : u ≠ 39 := by
  rintro rfl
  exact absurd hu (by decide)
theorem q_plain {B : Nat} {l : List UInt8} {u : UInt8} {w : World} (h : QB B (39 :: l ++ [u]) w) (hu : ((u.toNat : Int) == 39) = false) (hp : plainB u.toNat = true) : QB B (39 :: (l ++ q1 u)) w := by
  rw [q1, if_neg (ne_quote hu), if_pos hp]
  exact h

theorem q_hex {B : Nat} {l : List UInt8} {u : UInt8} {w : World} (h : QB B (39 :: l ++ [92] ++ [hexd (u.toNat / 16)] ++ [hexd (u.toNat % 16)]) w) (hu : ((u.toNat : Int) == 39) = false) (hp : plainB u.toNat = false) : QB B (39 :: (l ++ q1 u)) w := by
  rw [q1, if_neg (ne_quote hu), if_neg (by simp [hp])]
  simpa using h

end Go.Proofs.YtppigamibgefaaaGreatDoor
namespace Go.Proofs.YtppigamibgefaaaGreatDoor
open Go.RowKit Go.Extern.Stop Go.Stop Go.Extern
namespace ParR

theorem valueOfPR (t : Addr) (w : World) : (ReflectliteValue.unpack (.iface 91 (.pointer (some t)))).run Tryz.prog w
    = .ok (.agg #[.pointer (some ⟨16, 91, none⟩), .pointer (some ⟨w.heap.size, 0, none⟩), .int .u64 150]) (w.alloc (.cells #[.pointer (some t)] 91)) := by kernel_rfl
theorem typePR (a : Addr) (w : World) : (ReflectliteValue.methodAny (ReflectliteValue.valueError "reflectlite.Value.Type" 0) (fun t _ _ _ => ReflectliteType.toType t) #[.agg #[.pointer (some ⟨16, 91, none⟩), .pointer (some a), .int .u64 150]]).run Tryz.prog w
    = .ok (.iface 174 (.agg #[.pointer (some ⟨16, 91, none⟩)])) w := by kernel_rfl
theorem kindPR (w : World) : ((ReflectliteType.abiMethod fun t => (fun a : Nat => Value.int IntKind.u8 (a : Int)) <$> Rtype.kind t) #[.pointer (some ⟨16, 91, none⟩)]).run Tryz.prog w = .ok (.int .u8 22) w := by kernel_rfl
theorem kindER (w : World) : ((ReflectliteType.abiMethod fun t => (fun a : Nat => Value.int IntKind.u8 (a : Int)) <$> Rtype.kind t) #[.pointer (some ⟨16, 88, none⟩)]).run Tryz.prog w = .ok (.int .u8 2) w := by kernel_rfl
theorem partsPR (a : Addr) (w : World) : (ReflectliteValue.parts (.agg #[.pointer (some ⟨16, 91, none⟩), .pointer (some a), .int .u64 150])).run Tryz.prog w = .ok (some (91, a, 150)) w := by kernel_rfl
theorem isNilPR (a p : Addr) (W : World) (ha : W.cell? a = some (.pointer (some p))) :
    (ReflectliteValue.method (ReflectliteValue.valueError "reflectlite.Value.IsNil" 0) ReflectliteValue.isNil #[.agg #[.pointer (some ⟨16, 91, none⟩), .pointer (some a), .int .u64 150]]).run Tryz.prog W = .ok (.bool false) W := by
  rw [rlm]
  simp only [Sem.run_bind, partsPR, Result.andThen]
  simp [ReflectliteValue.isNil, loadVar, isAgg, underlying, Tryz.underlying91, ha, Result.andThen]
theorem elemPR (w : World) : (ReflectliteType.method ReflectliteType.elem #[.agg #[.pointer (some ⟨16, 91, none⟩)]]).run Tryz.prog w = .ok (.iface 174 (.agg #[.pointer (some ⟨16, 88, none⟩)])) w := by kernel_rfl
theorem implER (w : World) : (ReflectliteType.relation "Implements" ReflectliteType.implements_ #[.agg #[.pointer (some ⟨16, 88, none⟩)], .iface 174 (.agg #[.pointer (some ⟨16, 83, none⟩)])]).run Tryz.prog w = .ok (.bool true) w := by kernel_rfl
theorem typeOfER (v : Value) (w : World) : (ReflectliteType.typeOf #[.iface 88 v]).run Tryz.prog w = .ok (.iface 174 (.agg #[.pointer (some ⟨16, 88, none⟩)])) w := by kernel_rfl
theorem assignER (w : World) : (ReflectliteType.relation "AssignableTo" ReflectliteType.assignableTo #[.agg #[.pointer (some ⟨16, 88, none⟩)], .iface 174 (.agg #[.pointer (some ⟨16, 88, none⟩)])]).run Tryz.prog w = .ok (.bool true) w := by kernel_rfl
theorem valueOfER (x : Int) (w : World) : (ReflectliteValue.unpack (.iface 88 (.int .i64 x))).run Tryz.prog w
    = .ok (.agg #[.pointer (some ⟨16, 88, none⟩), .pointer (some ⟨w.heap.size, 0, none⟩), .int .u64 130]) (w.alloc (.cells #[.int .i64 x] 88)) := by kernel_rfl
theorem elemOfPR (w : World) : (Rtype.elem? 91).run Tryz.prog w = .ok (some 88) w := by kernel_rfl
theorem mkER (p : Addr) (w : World) : (ReflectliteValue.mk 88 p ReflectliteValue.flagAddr).run Tryz.prog w = .ok (.agg #[.pointer (some ⟨16, 88, none⟩), .pointer (some p), .int .u64 386]) w := by kernel_rfl
theorem elemVR (a p : Addr) (W : World) (ha : W.cell? a = some (.pointer (some p))) :
    (ReflectliteValue.method (ReflectliteValue.valueError "reflectlite.Value.Elem" 0) ReflectliteValue.elem #[.agg #[.pointer (some ⟨16, 91, none⟩), .pointer (some a), .int .u64 150]]).run Tryz.prog W
      = .ok (.agg #[.pointer (some ⟨16, 88, none⟩), .pointer (some p), .int .u64 386]) W := by
  rw [rlm]
  simp only [Sem.run_bind, partsPR, Result.andThen]
  simp [ReflectliteValue.elem, loadVar, isAgg, underlying, Tryz.underlying91, ha, Result.andThen, elemOfPR, mkER]
theorem partsEaR (a : Addr) (w : World) : (ReflectliteValue.parts (.agg #[.pointer (some ⟨16, 88, none⟩), .pointer (some a), .int .u64 386])).run Tryz.prog w = .ok (some (88, a, 386)) w := by kernel_rfl
theorem partsER (a : Addr) (w : World) : (ReflectliteValue.parts (.agg #[.pointer (some ⟨16, 88, none⟩), .pointer (some a), .int .u64 130])).run Tryz.prog w = .ok (some (88, a, 130)) w := by kernel_rfl
theorem directER (w : World) : (Rtype.directlyAssignable 88 88).run Tryz.prog w = .ok true w := by kernel_rfl
theorem setER (t b : Nat) (x : Int) (o0 : Value) (W : World) (hb : W.cell? ⟨b, 0, none⟩ = some (.int .i64 x)) (ht0 : W.cell? ⟨t, 0, none⟩ = some o0) (hf0 : W.frozen? ⟨t, 0, none⟩ = false) :
    (ReflectliteValue.set #[.agg #[.pointer (some ⟨16, 88, none⟩), .pointer (some ⟨t, 0, none⟩), .int .u64 386], .agg #[.pointer (some ⟨16, 88, none⟩), .pointer (some ⟨b, 0, none⟩), .int .u64 130]]).run Tryz.prog W
      = .ok (.tuple #[]) (W.setCell ⟨t, 0, none⟩ (.int .i64 x)) := by
  rw [rls]
  simp only [Sem.run_bind, partsEaR, partsER, Result.andThen]
  have hl : (loadVar 88 ⟨b, 0, none⟩).run Tryz.prog W = .ok (.int .i64 x) W := by simp [loadVar, isAgg, underlying, Tryz.underlying88, hb, Result.andThen]
  simp [ReflectliteValue.flagAddr, hl, Result.andThen, directER, storeVar, Value.cells, storeCells, Addr.add]
  rw [run_store Tryz.prog W ⟨t, 0, none⟩ _ _ (by rfl)]
  simp [ht0, hf0]
/-- What errors.As leaves where it hits: the target's cell, and new blocks. -/
def HitR (w : World) (t : Nat) (x : Int) (w' : World) : Prop := ∃ w4, w.grownBy w4 none ∧ w' = w4.setCell ⟨t, 0, none⟩ (.int .i64 x)
theorem typeOfEW (v : Value) (w : World) : (ReflectliteType.typeOf #[.iface 87 v]).run Tryz.prog w = .ok (.iface 174 (.agg #[.pointer (some ⟨16, 87, none⟩)])) w := by kernel_rfl
theorem assignEW (w : World) : (ReflectliteType.relation "AssignableTo" ReflectliteType.assignableTo #[.agg #[.pointer (some ⟨16, 87, none⟩)], .iface 174 (.agg #[.pointer (some ⟨16, 88, none⟩)])]).run Tryz.prog w = .ok (.bool false) w := by kernel_rfl
theorem lacksAsW (p : Value) (w : World) : (Instr.typeAssert (.iface 87 p) 83 179 true).run Tryz.prog w = .ok (.tuple #[.nilIface, .bool false]) w := run_typeAssert_lacksB Tryz.underlying179 (by kernel_rfl) (by kernel_rfl) p 83 w
set_option maxHeartbeats 8000000 in
theorem as_hitR (x : Int) (t G : Nat) (o0 : Value) (w : World) (hE : ErrT G w) (ht0 : w.cell? ⟨t, 0, none⟩ = some o0) (hf0 : w.frozen? ⟨t, 0, none⟩ = false) :
    Calls Tryz.prog 33 #[.iface 88 (.int .i64 x), .iface 91 (.pointer (some ⟨t, 0, none⟩))] w fun ev w' => ev = .returned (.bool true) ∧ HitR w t x w' := by
  have hg := hE.2
  have h6 := @run_callFunc_extern Tryz.prog 62 _ (fun args => ReflectliteValue.unpack (args.getD 0 (.tuple #[]))) Tryz.func62 (by kernel_rfl) (by kernel_rfl) (by kernel_rfl) (by kernel_rfl)
  have h7 := @run_callFunc_extern Tryz.prog 63 _ (ReflectliteValue.methodAny (ReflectliteValue.valueError "reflectlite.Value.Type" 0) (fun t _ _ _ => ReflectliteType.toType t)) Tryz.func63 (by kernel_rfl) (by kernel_rfl) (by kernel_rfl) (by kernel_rfl)
  have h8 := @run_callFunc_extern Tryz.prog 64 _ (ReflectliteValue.method (ReflectliteValue.valueError "reflectlite.Value.IsNil" 0) ReflectliteValue.isNil) Tryz.func64 (by kernel_rfl) (by kernel_rfl) (by kernel_rfl) (by kernel_rfl)
  have h27 := @run_callFunc_extern Tryz.prog 241 _ (ReflectliteType.abiMethod fun t => do pure (.int .u8 (← Rtype.kind t))) Tryz.func241 (by kernel_rfl) (by kernel_rfl) (by kernel_rfl) (by kernel_rfl)
  have h37 := @run_callFunc_extern Tryz.prog 258 _ (ReflectliteType.method ReflectliteType.elem) Tryz.func258 (by kernel_rfl) (by kernel_rfl) (by kernel_rfl) (by kernel_rfl)
  have h38 := @run_callFunc_extern Tryz.prog 259 _ (ReflectliteType.relation "Implements" ReflectliteType.implements_) Tryz.func259 (by kernel_rfl) (by kernel_rfl) (by kernel_rfl) (by kernel_rfl)
  have h10 := @run_callFunc_extern Tryz.prog 95 _ ReflectliteType.typeOf Tryz.func95 (by kernel_rfl) (by kernel_rfl) (by kernel_rfl) (by kernel_rfl)
  have h35 := @run_callFunc_extern Tryz.prog 256 _ (ReflectliteType.relation "AssignableTo" ReflectliteType.assignableTo) Tryz.func256 (by kernel_rfl) (by kernel_rfl) (by kernel_rfl) (by kernel_rfl)
  have h11 := @run_callFunc_extern Tryz.prog 96 _ (ReflectliteValue.method (ReflectliteValue.valueError "reflectlite.Value.Elem" 0) ReflectliteValue.elem) Tryz.func96 (by kernel_rfl) (by kernel_rfl) (by kernel_rfl) (by kernel_rfl)
  have h12 := @run_callFunc_extern Tryz.prog 97 _ ReflectliteValue.set Tryz.func97 (by kernel_rfl) (by kernel_rfl) (by kernel_rfl) (by kernel_rfl)
  have tO := typeOfER
  have mA := methodAssignableTo
  have a25 := assignER
  have v25 := valueOfER
  have f6 := valueOfPR
  have f7 := typePR
  have mK := methodKind
  have mE := methodElem
  have mI := methodImplements
  have k27 := kindPR
  have k25 := kindER
  have e27 := elemPR
  have i25 := implER
  have n8 := isNilPR ⟨w.heap.size, 0, none⟩ ⟨t, 0, none⟩ ((w.alloc (.cells #[.pointer (some ⟨t, 0, none⟩)] 91)).alloc (.cells #[.pointer (some ⟨16, 91, none⟩), .pointer (some ⟨w.heap.size, 0, none⟩), .int .u64 150] 136)) (by simp)
  have hlt : 0 < w.heap.size := World.block_lt_of_cell? w _ hg
  have hg2 : ((w.alloc (.cells #[.pointer (some ⟨t, 0, none⟩)] 91)).alloc (.cells #[.pointer (some ⟨16, 91, none⟩), .pointer (some ⟨w.heap.size, 0, none⟩), .int .u64 150] 136)).cell? ⟨0, 0, none⟩ = some (.iface 174 (.agg #[.pointer (some ⟨16, 83, none⟩)])) := by
    rw [World.cell?_alloc_lt _ _ ⟨0, 0, none⟩ (by first | (simp; done) | (simp; omega)), World.cell?_alloc_lt _ _ ⟨0, 0, none⟩ hlt]; exact hg
  have htl : t < w.heap.size := World.block_lt_of_cell? w _ ht0
  have el := elemVR ⟨w.heap.size, 0, none⟩ ⟨t, 0, none⟩ (((w.alloc (.cells #[.pointer (some ⟨t, 0, none⟩)] 91)).alloc (.cells #[.pointer (some ⟨16, 91, none⟩), .pointer (some ⟨w.heap.size, 0, none⟩), .int .u64 150] 136)).alloc (.cells #[.pointer (some ⟨16, 91, none⟩), .pointer (some ⟨w.heap.size, 0, none⟩), .int .u64 150] 136)) (by rw [World.cell?_alloc_lt _ _ ⟨w.heap.size, 0, none⟩ (by first | (simp; done) | (simp; omega))]; simp)
  obtain ⟨W4, hW4⟩ : ∃ W4, W4 = ((((w.alloc (.cells #[.pointer (some ⟨t, 0, none⟩)] 91)).alloc (.cells #[.pointer (some ⟨16, 91, none⟩), .pointer (some ⟨w.heap.size, 0, none⟩), .int .u64 150] 136)).alloc (.cells #[.pointer (some ⟨16, 91, none⟩), .pointer (some ⟨w.heap.size, 0, none⟩), .int .u64 150] 136)).alloc (.cells #[.int .i64 x] 88)) := ⟨_, rfl⟩
  have gr : w.grownBy W4 none := by rw [hW4]; exact (((World.grownBy_alloc _ _ _).trans (World.grownBy_alloc _ _ _)).trans (World.grownBy_alloc _ _ _)).trans (World.grownBy_alloc _ _ _)
  have e4 := heap_alloc_new (((w.alloc (.cells #[.pointer (some ⟨t, 0, none⟩)] 91)).alloc (.cells #[.pointer (some ⟨16, 91, none⟩), .pointer (some ⟨w.heap.size, 0, none⟩), .int .u64 150] 136)).alloc (.cells #[.pointer (some ⟨16, 91, none⟩), .pointer (some ⟨w.heap.size, 0, none⟩), .int .u64 150] 136)) (.cells #[.int .i64 x] 88)
  have sz3 : (((w.alloc (.cells #[.pointer (some ⟨t, 0, none⟩)] 91)).alloc (.cells #[.pointer (some ⟨16, 91, none⟩), .pointer (some ⟨w.heap.size, 0, none⟩), .int .u64 150] 136)).alloc (.cells #[.pointer (some ⟨16, 91, none⟩), .pointer (some ⟨w.heap.size, 0, none⟩), .int .u64 150] 136)).heap.size = w.heap.size + 1 + 1 + 1 := by simp
  rw [sz3, ← hW4] at e4
  have st := setER t (w.heap.size + 1 + 1 + 1) x o0 W4 (cell_of_row _ _ 0 _ _ _ e4) (gr.cell ht0 (by simp)) ((gr.frozen_far ⟨t, 0, none⟩ htl (by simp)).trans hf0)
  have GR := Lib.hid gr
  have HW4 := Lib.hid hW4
  rw [hW4] at st
  clear hW4 gr ht0 hf0 e4 sz3
  go_enter Tryz.func33, Tryz.ntmps33
  go_wp2
  refine wp_loop_rounds 1 ?_
  rw [rounds_succ]
  go_wp2
  go_ret
  exact ⟨rfl, W4, GR.out, by rw [HW4.out]⟩
end ParR
end Go.Proofs.YtppigamibgefaaaGreatDoor
namespace Go.Proofs.YtppigamibgefaaaGreatDoor
open Go.RowKit

end Go.Proofs.YtppigamibgefaaaGreatDoor
