/- The fixed fact with which each statement begins is true, at whatever memory; and the contract of value.Text at a text of at most 60 bytes. Plain facts on the order of values: it is the document's at good values, an order, and nought just at equal ones. errors.As at parse's refusal that is wrapped in a fault. -/
import Derived.Test.YtddbnmiennjnlaaGreatDoorZk03
import Derived.Test.YtddbnmiennjnlaaGreatDoorZk04
namespace Go.Proofs.YtddbnmiennjnlaaGreatDoor
open Go.RowKit

end Go.Proofs.YtddbnmiennjnlaaGreatDoor
namespace Go.Proofs.YtddbnmiennjnlaaGreatDoor
open Go.RowKit

/-- What value.Compare answers, by the cells. -/
def ordC (ak an : Int) (sa : ByteArray) (bk bn : Int) (sb : ByteArray) : Int := or3 (cmp3 ak bk) (cmp3 an bn) (Lib.compareBytes sa.data.toList sb.data.toList)

theorem cb_range : ∀ a b : List UInt8, -1 ≤ Lib.compareBytes a b ∧ Lib.compareBytes a b ≤ 1
  | [], [] => by simp [Lib.compareBytes]
  | [], _ :: _ => by simp [Lib.compareBytes]
  | _ :: _, [] => by simp [Lib.compareBytes]
  | x :: a, y :: b => by
    have ih := cb_range a b
    simp only [Lib.compareBytes]
    split
    · omega
    · split
      · omega
      · exact ih
theorem cb_turn : ∀ a b : List UInt8, Lib.compareBytes b a = - Lib.compareBytes a b
  | [], [] => by simp [Lib.compareBytes]
  | [], _ :: _ => by simp [Lib.compareBytes]
  | _ :: _, [] => by simp [Lib.compareBytes]
  | x :: a, y :: b => by
    have ih := cb_turn a b
    simp only [Lib.compareBytes, UInt8.lt_iff_toNat_lt]
    by_cases h1 : x.toNat < y.toNat
    · rw [if_neg (by omega), if_pos h1, if_pos h1]; rfl
    · by_cases h2 : y.toNat < x.toNat
      · rw [if_pos h2, if_neg h1, if_pos h2]
      · rw [if_neg h2, if_neg h1, if_neg h1, if_neg h2, ih]
theorem cb_zero : ∀ a b : List UInt8, Lib.compareBytes a b = 0 ↔ a = b
  | [], [] => by simp [Lib.compareBytes]
  | [], _ :: _ => by simp [Lib.compareBytes]
  | _ :: _, [] => by simp [Lib.compareBytes]
  | x :: a, y :: b => by
    have ih := cb_zero a b
    simp only [Lib.compareBytes, UInt8.lt_iff_toNat_lt, List.cons.injEq, ← UInt8.toNat_inj]
    by_cases h1 : x.toNat < y.toNat
    · rw [if_pos h1]; constructor
      · intro h; omega
      · intro h; omega
    · by_cases h2 : y.toNat < x.toNat
      · rw [if_neg h1, if_pos h2]; constructor
        · intro h; omega
        · intro h; omega
      · rw [if_neg h1, if_neg h2, ih]; constructor
        · intro h; exact ⟨by omega, h⟩
        · intro h; exact h.2
/-- The order goes on, and only equals stay equal. -/
theorem cb_trans : ∀ a b c : List UInt8, Lib.compareBytes a b ≤ 0 → Lib.compareBytes b c ≤ 0 → Lib.compareBytes a c ≤ 0 ∧ (Lib.compareBytes a c = 0 → Lib.compareBytes a b = 0 ∧ Lib.compareBytes b c = 0)
  | [], [], [] => by simp [Lib.compareBytes]
  | [], [], _ :: _ => by simp [Lib.compareBytes]
  | [], _ :: _, [] => by simp [Lib.compareBytes]
  | [], _ :: _, _ :: _ => by simp [Lib.compareBytes]
  | _ :: _, [], _ => by simp [Lib.compareBytes]
  | _ :: _, _ :: _, [] => by simp [Lib.compareBytes]
  | x :: a, y :: b, z :: c => by
    have ih := cb_trans a b c
    simp only [Lib.compareBytes, UInt8.lt_iff_toNat_lt]
    by_cases h1 : x.toNat < y.toNat <;> by_cases h2 : y.toNat < z.toNat <;> by_cases h3 : x.toNat < z.toNat <;> by_cases h4 : y.toNat < x.toNat <;> by_cases h5 : z.toNat < y.toNat <;> by_cases h6 : z.toNat < x.toNat <;> first | (exfalso; omega) | (simp [h1, h2, h3, h4, h5, h6]; done) | (simp only [h1, h2, h3, h4, h5, h6, if_false]; first | exact ih | (intros; omega) | (intros; constructor <;> (try intros) <;> omega))

theorem cmp3_range (a b : Int) : -1 ≤ cmp3 a b ∧ cmp3 a b ≤ 1 := by
  unfold cmp3; (repeat' split) <;> omega
theorem cmp3_turn (a b : Int) : cmp3 b a = - cmp3 a b := by
  unfold cmp3; (repeat' split) <;> omega
theorem cmp3_zero (a b : Int) : cmp3 a b = 0 ↔ a = b := by
  unfold cmp3; (repeat' split) <;> omega
theorem cmp3_trans (a b c : Int) (h1 : cmp3 a b ≤ 0) (h2 : cmp3 b c ≤ 0) : cmp3 a c ≤ 0 ∧ (cmp3 a c = 0 → cmp3 a b = 0 ∧ cmp3 b c = 0) := by
  unfold cmp3 at *
  by_cases g1 : a < b <;> by_cases g2 : b < c <;> by_cases g3 : a < c <;> by_cases g4 : b < a <;> by_cases g5 : c < b <;> by_cases g6 : c < a <;> simp_all <;> omega

/-- .. and so does the order by parts. -/
def or2 (a b : Int) : Int := if a ≠ 0 then a else b
theorem or2_trans {a1 a2 b1 b2 c1 c2 : Int}
    (t1 : a1 ≤ 0 → b1 ≤ 0 → c1 ≤ 0 ∧ (c1 = 0 → a1 = 0 ∧ b1 = 0)) (z1 : a1 = 0 → b1 = 0 → c1 = 0) (t2 : a2 ≤ 0 → b2 ≤ 0 → c2 ≤ 0 ∧ (c2 = 0 → a2 = 0 ∧ b2 = 0))
    (ha : or2 a1 a2 ≤ 0) (hb : or2 b1 b2 ≤ 0) : or2 c1 c2 ≤ 0 ∧ (or2 c1 c2 = 0 → or2 a1 a2 = 0 ∧ or2 b1 b2 = 0) := by
  have ha1 : a1 ≤ 0 := by unfold or2 at ha; split at ha <;> omega
  have hb1 : b1 ≤ 0 := by unfold or2 at hb; split at hb <;> omega
  obtain ⟨hc1, hc2⟩ := t1 ha1 hb1
  by_cases g : c1 = 0
  · obtain ⟨rfl, rfl⟩ := hc2 g
    subst g
    simp only [or2, ne_eq, not_true_eq_false, if_false] at *
    exact t2 ha hb
  · have e : or2 c1 c2 = c1 := by rw [or2, if_pos g]
    rw [e]
    exact ⟨hc1, fun h => absurd h g⟩
theorem or3_or2 (a b c : Int) : or3 a b c = or2 a (or2 b c) := rfl

theorem ordC_range (ak an : Int) (sa : ByteArray) (bk bn : Int) (sb : ByteArray) : -1 ≤ ordC ak an sa bk bn sb ∧ ordC ak an sa bk bn sb ≤ 1 := by
  have h1 := cmp3_range ak bk
  have h2 := cmp3_range an bn
  have h3 := cb_range sa.data.toList sb.data.toList
  unfold ordC or3
  (repeat' split) <;> omega
theorem ordC_turn (ak an : Int) (sa : ByteArray) (bk bn : Int) (sb : ByteArray) : ordC bk bn sb ak an sa = - ordC ak an sa bk bn sb := by
  unfold ordC
  rw [cmp3_turn ak bk, cmp3_turn an bn, cb_turn sa.data.toList sb.data.toList]
  unfold or3
  (repeat' split) <;> omega
theorem bytes_ext {a b : ByteArray} (h : a.data.toList = b.data.toList) : a = b := by
  cases a; cases b
  simp only [ByteArray.mk.injEq]
  exact Array.toList_inj.1 h
theorem ordC_zero (ak an : Int) (sa : ByteArray) (bk bn : Int) (sb : ByteArray) : ordC ak an sa bk bn sb = 0 ↔ ak = bk ∧ an = bn ∧ sa = sb := by
  have h1 := cmp3_zero ak bk
  have h2 := cmp3_zero an bn
  have h3 := cb_zero sa.data.toList sb.data.toList
  unfold ordC or3
  constructor
  · intro h
    split at h
    · omega
    · split at h
      · omega
      · exact ⟨by omega, by omega, bytes_ext (h3.1 h)⟩
  · rintro ⟨rfl, rfl, rfl⟩
    rw [if_neg (by simp [cmp3]), if_neg (by simp [cmp3])]
    exact h3.2 rfl
theorem ordC_trans (ak an : Int) (sa : ByteArray) (bk bn : Int) (sb : ByteArray) (ck cn : Int) (sc : ByteArray) (h1 : ordC ak an sa bk bn sb ≤ 0) (h2 : ordC bk bn sb ck cn sc ≤ 0) :
    ordC ak an sa ck cn sc ≤ 0 ∧ (ordC ak an sa ck cn sc = 0 → ordC ak an sa bk bn sb = 0 ∧ ordC bk bn sb ck cn sc = 0) :=
  or2_trans (cmp3_trans ak bk ck) (by simp only [cmp3_zero]; omega) (or2_trans (cmp3_trans an bn cn) (by simp only [cmp3_zero]; omega) (cb_trans _ _ _)) h1 h2

theorem toList_nil {s : ByteArray} (h : s.toList.isEmpty = true) : s.data.toList = [] := by
  rw [← Lib.toList_data]
  exact List.isEmpty_iff.1 h

/-- At good values the program's order is the document's. -/
theorem ordC_ordV {ak an : Int} {sa : ByteArray} {bk bn : Int} {sb : ByteArray} (ha : goodB ak an sa = true) (hb : goodB bk bn sb = true) : ordV ak an sa bk bn sb = ordC ak an sa bk bn sb := by
  unfold ordV ordC or3
  by_cases h : ak = bk
  · subst h
    rw [if_neg (show ¬ (ak ≠ ak) by simp), if_neg (show ¬ (cmp3 ak ak ≠ 0) by simp [cmp3])]
    by_cases h1 : ak = 1 ∨ ak = 2
    · rw [if_pos h1]
      have e1 : sa.data.toList = [] := by
        rcases h1 with rfl | rfl <;> simp [goodB] at ha <;> exact toList_nil (by simp [ha])
      have e2 : sb.data.toList = [] := by
        rcases h1 with rfl | rfl <;> simp [goodB] at hb <;> exact toList_nil (by simp [hb])
      rw [e1, e2]
      split
      · rfl
      · rename_i h2; simp at h2; rw [h2]; rfl
    · rw [if_neg h1]
      by_cases h3 : ak = 3
      · subst h3
        have e1 : an = 0 := by simp [goodB] at ha; exact ha.1
        have e2 : bn = 0 := by simp [goodB] at hb; exact hb.1
        subst e1 e2
        rw [if_pos rfl, if_neg (by simp [cmp3])]
      · rw [if_neg h3]
        by_cases h0 : ak = 0
        · subst h0
          simp [goodB] at ha hb
          rw [ha.1, hb.1, toList_nil (by simp [ha.2]), toList_nil (by simp [hb.2])]
          rfl
        · exfalso
          have : goodB ak an sa = false := by
            unfold goodB
            rw [if_neg h0, if_neg (by omega), if_neg (by omega), if_neg h3]
          simp [this] at ha
  · rw [if_pos h, if_pos (by rw [ne_eq, cmp3_zero]; exact h)]
end Go.Proofs.YtddbnmiennjnlaaGreatDoor
namespace Go.Proofs.YtddbnmiennjnlaaGreatDoor
open Go.RowKit Go.Extern.Stop Go.Stop Go.Extern
namespace ParR

theorem hasUnwrapW (p : Value) (w : World) : (Instr.typeAssert (.iface 74 p) 70 145 true).run Tryz.prog w = .ok (.tuple #[.iface 74 p, .bool true]) w := run_typeAssert_hasB Tryz.underlying145 (by kernel_rfl) p 70 w
theorem methodUnwrapW (h : Value) (w : World) : (Go.method 397 74 h "Unwrap").run Tryz.prog w = .ok (211, h) w := by kernel_rfl
set_option maxHeartbeats 8000000 in
theorem as_wrapR (pl x : Int) (t G : Nat) (o0 : Value) (w : World) (hE : ErrT G w) (ht0 : w.cell? ⟨t, 0, none⟩ = some o0) (hf0 : w.frozen? ⟨t, 0, none⟩ = false) :
    Calls Tryz.prog 22 #[.iface 74 (.agg #[.int .i64 pl, .iface 75 (.int .i64 x)]), .iface 78 (.pointer (some ⟨t, 0, none⟩))] w fun ev w' => ev = .returned (.bool true) ∧ HitR w t x w' := by
  have hg := hE.2
  have h6 := @run_callFunc_extern Tryz.prog 37 _ (fun args => ReflectliteValue.unpack (args.getD 0 (.tuple #[]))) Tryz.func37 (by kernel_rfl) (by kernel_rfl) (by kernel_rfl) (by kernel_rfl)
  have h7 := @run_callFunc_extern Tryz.prog 38 _ (ReflectliteValue.methodAny (ReflectliteValue.valueError "reflectlite.Value.Type" 0) (fun t _ _ _ => ReflectliteType.toType t)) Tryz.func38 (by kernel_rfl) (by kernel_rfl) (by kernel_rfl) (by kernel_rfl)
  have h8 := @run_callFunc_extern Tryz.prog 39 _ (ReflectliteValue.method (ReflectliteValue.valueError "reflectlite.Value.IsNil" 0) ReflectliteValue.isNil) Tryz.func39 (by kernel_rfl) (by kernel_rfl) (by kernel_rfl) (by kernel_rfl)
  have h27 := @run_callFunc_extern Tryz.prog 207 _ (ReflectliteType.abiMethod fun t => do pure (.int .u8 (← Rtype.kind t))) Tryz.func207 (by kernel_rfl) (by kernel_rfl) (by kernel_rfl) (by kernel_rfl)
  have h37 := @run_callFunc_extern Tryz.prog 223 _ (ReflectliteType.method ReflectliteType.elem) Tryz.func223 (by kernel_rfl) (by kernel_rfl) (by kernel_rfl) (by kernel_rfl)
  have h38 := @run_callFunc_extern Tryz.prog 224 _ (ReflectliteType.relation "Implements" ReflectliteType.implements_) Tryz.func224 (by kernel_rfl) (by kernel_rfl) (by kernel_rfl) (by kernel_rfl)
  have h10 := @run_callFunc_extern Tryz.prog 66 _ ReflectliteType.typeOf Tryz.func66 (by kernel_rfl) (by kernel_rfl) (by kernel_rfl) (by kernel_rfl)
  have h35 := @run_callFunc_extern Tryz.prog 221 _ (ReflectliteType.relation "AssignableTo" ReflectliteType.assignableTo) Tryz.func221 (by kernel_rfl) (by kernel_rfl) (by kernel_rfl) (by kernel_rfl)
  have h11 := @run_callFunc_extern Tryz.prog 67 _ (ReflectliteValue.method (ReflectliteValue.valueError "reflectlite.Value.Elem" 0) ReflectliteValue.elem) Tryz.func67 (by kernel_rfl) (by kernel_rfl) (by kernel_rfl) (by kernel_rfl)
  have h12 := @run_callFunc_extern Tryz.prog 68 _ ReflectliteValue.set Tryz.func68 (by kernel_rfl) (by kernel_rfl) (by kernel_rfl) (by kernel_rfl)
  have tO := typeOfER
  have mA := methodAssignableTo
  have a25 := assignER
  have v25 := valueOfER
  have f6 := valueOfPR
  have f7 := typePR
  have mK := methodKind
  have mE := methodElem
  have mI := methodImplements
  have k27 := kindPR
  have k25 := kindER
  have e27 := elemPR
  have i25 := implER
  have tW := typeOfEW
  have aW := assignEW
  have lW := lacksAsW
  have uW := hasUnwrapW
  have mU := methodUnwrapW
  have n8 := isNilPR ⟨w.heap.size, 0, none⟩ ⟨t, 0, none⟩ ((w.alloc (.cells #[.pointer (some ⟨t, 0, none⟩)] 78)).alloc (.cells #[.pointer (some ⟨16, 78, none⟩), .pointer (some ⟨w.heap.size, 0, none⟩), .int .u64 150] 104)) (by simp)
  have hlt : 0 < w.heap.size := World.block_lt_of_cell? w _ hg
  have hg2 : ((w.alloc (.cells #[.pointer (some ⟨t, 0, none⟩)] 78)).alloc (.cells #[.pointer (some ⟨16, 78, none⟩), .pointer (some ⟨w.heap.size, 0, none⟩), .int .u64 150] 104)).cell? ⟨0, 0, none⟩ = some (.iface 137 (.agg #[.pointer (some ⟨16, 70, none⟩)])) := by
    rw [World.cell?_alloc_lt _ _ ⟨0, 0, none⟩ (by first | (simp; done) | (simp; omega)), World.cell?_alloc_lt _ _ ⟨0, 0, none⟩ hlt]; exact hg
  have htl : t < w.heap.size := World.block_lt_of_cell? w _ ht0
  have e1 : (w.alloc (.cells #[.pointer (some ⟨t, 0, none⟩)] 78)).cell? ⟨w.heap.size, 0, none⟩ = some (.pointer (some ⟨t, 0, none⟩)) := cell_of_row _ _ 0 _ _ _ (heap_alloc_new w _)
  have g14 : (w.alloc (.cells #[.pointer (some ⟨t, 0, none⟩)] 78)).grownBy ((((w.alloc (.cells #[.pointer (some ⟨t, 0, none⟩)] 78)).alloc (.cells #[.pointer (some ⟨16, 78, none⟩), .pointer (some ⟨w.heap.size, 0, none⟩), .int .u64 150] 104)).alloc (.cells #[.pointer (some ⟨16, 78, none⟩), .pointer (some ⟨w.heap.size, 0, none⟩), .int .u64 150] 104)).alloc (.cells #[.int .i64 pl, .iface 75 (.int .i64 x)] 74)) none := ((World.grownBy_alloc _ _ _).trans (World.grownBy_alloc _ _ _)).trans (World.grownBy_alloc _ _ _)
  have el := elemVR ⟨w.heap.size, 0, none⟩ ⟨t, 0, none⟩ ((((w.alloc (.cells #[.pointer (some ⟨t, 0, none⟩)] 78)).alloc (.cells #[.pointer (some ⟨16, 78, none⟩), .pointer (some ⟨w.heap.size, 0, none⟩), .int .u64 150] 104)).alloc (.cells #[.pointer (some ⟨16, 78, none⟩), .pointer (some ⟨w.heap.size, 0, none⟩), .int .u64 150] 104)).alloc (.cells #[.int .i64 pl, .iface 75 (.int .i64 x)] 74)) (g14.cell e1 (by simp))
  obtain ⟨W5, hW5⟩ : ∃ W5, W5 = (((((w.alloc (.cells #[.pointer (some ⟨t, 0, none⟩)] 78)).alloc (.cells #[.pointer (some ⟨16, 78, none⟩), .pointer (some ⟨w.heap.size, 0, none⟩), .int .u64 150] 104)).alloc (.cells #[.pointer (some ⟨16, 78, none⟩), .pointer (some ⟨w.heap.size, 0, none⟩), .int .u64 150] 104)).alloc (.cells #[.int .i64 pl, .iface 75 (.int .i64 x)] 74)).alloc (.cells #[.int .i64 x] 75)) := ⟨_, rfl⟩
  have gr : w.grownBy W5 none := by rw [hW5]; exact ((((World.grownBy_alloc _ _ _).trans (World.grownBy_alloc _ _ _)).trans (World.grownBy_alloc _ _ _)).trans (World.grownBy_alloc _ _ _)).trans (World.grownBy_alloc _ _ _)
  have e5 := heap_alloc_new ((((w.alloc (.cells #[.pointer (some ⟨t, 0, none⟩)] 78)).alloc (.cells #[.pointer (some ⟨16, 78, none⟩), .pointer (some ⟨w.heap.size, 0, none⟩), .int .u64 150] 104)).alloc (.cells #[.pointer (some ⟨16, 78, none⟩), .pointer (some ⟨w.heap.size, 0, none⟩), .int .u64 150] 104)).alloc (.cells #[.int .i64 pl, .iface 75 (.int .i64 x)] 74)) (.cells #[.int .i64 x] 75)
  have sz4 : ((((w.alloc (.cells #[.pointer (some ⟨t, 0, none⟩)] 78)).alloc (.cells #[.pointer (some ⟨16, 78, none⟩), .pointer (some ⟨w.heap.size, 0, none⟩), .int .u64 150] 104)).alloc (.cells #[.pointer (some ⟨16, 78, none⟩), .pointer (some ⟨w.heap.size, 0, none⟩), .int .u64 150] 104)).alloc (.cells #[.int .i64 pl, .iface 75 (.int .i64 x)] 74)).heap.size = w.heap.size + 1 + 1 + 1 + 1 := by simp
  rw [sz4, ← hW5] at e5
  have st := setER t (w.heap.size + 1 + 1 + 1 + 1) x o0 W5 (cell_of_row _ _ 0 _ _ _ e5) (gr.cell ht0 (by simp)) ((gr.frozen_far ⟨t, 0, none⟩ htl (by simp)).trans hf0)
  have GR := Lib.hid gr
  have HW5 := Lib.hid hW5
  rw [hW5] at st
  clear hW5 gr ht0 hf0 e5 sz4 g14 e1
  go_enter Tryz.func22, Tryz.ntmps22
  go_wp2
  refine wp_loop_rounds 2 ?_
  rw [rounds_succ]
  go_wp2
  rw [rounds_succ]
  go_wp2
  go_ret
  exact ⟨rfl, W5, GR.out, by rw [HW5.out]⟩
end ParR
end Go.Proofs.YtddbnmiennjnlaaGreatDoor
