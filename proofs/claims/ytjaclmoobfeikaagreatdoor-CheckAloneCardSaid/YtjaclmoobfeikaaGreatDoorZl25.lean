/- The reader's items, keys and limit. errors.Is at a fault of check; the contract of its number. The reader's items, keys and limit, on. -/
import Derived.Test.YtjaclmoobfeikaaGreatDoorZl24
import Derived.Test.YtjaclmoobfeikaaGreatDoorZl18
namespace Go.Proofs.YtjaclmoobfeikaaGreatDoor
open Go.RowKit

def Itm.c (x : Itm) : List Value := [.int .i64 x.agg, .string x.col, .int .i64 x.pos]
def Kyo.c (x : Kyo) : List Value := [.int .i64 x.item.agg, .string x.item.col, .int .i64 x.item.pos, .bool x.desc]
set_option maxRecDepth 100000 in
theorem pcolumn_any (R b deep : Nat) (s : RS) (w : World) (h : RdA R b deep s w) :
    Calls Tryz.prog 59 #[.pointer (some ⟨R, 0, none⟩)] w fun e w' => e = .returned (.agg (columnL s).2.c.toArray) ∧ RdGo R b deep (columnL s).1 w w' := by
  have HC := Lib.hid (fun W (hW : w.grownBy W none) => comes_any R b deep s W (h.keep hW))
  have HN := Lib.hid (fun W (hW : w.grownBy W none) => pname_any R b deep s W (h.keep hW))
  have HS := Lib.hid h
  unfold columnL Itm.c
  generalize s.hd.kind = kd at *
  generalize s.hd.text = tx at *
  generalize s.hd.pos = ps at *
  generalize s.name = nm at *
  obtain ⟨s1, n1⟩ := nm
  simp only at HN ⊢
  clear h
  go_enter Tryz.func59, Tryz.ntmps59
  have GA := Lib.hid (World.grownBy_alloc w (.cells #[.int .i64 0, .string ⟨#[]⟩, .int .i64 0] 65) none)
  go_wp2_with fail
  refine (HC.out _ GA.out).mono ?_
  rintro e w2 ⟨rfl, hg⟩
  have G2 := Lib.hid (GA.out.trans hg)
  have A2 := Lib.hid (blk_grown hg (heap_alloc_new w _))
  have t1 := field_tk2 (.int .i64 kd) (.string tx) (.int .i64 ps) w2
  clear hg
  go_wp2_with fail
  refine (HN.out _ G2.out).mono ?_
  rintro e w3 ⟨rfl, hr⟩
  have hRw := HS.out.lt'
  have A3 := hr.blk A2.out (by omega)
  have R3 := Lib.hid hr
  obtain ⟨⟨a0, a1, a2⟩, b0, b1, b2⟩ := three_of A3
  have HA3 := Lib.hid A3
  clear hr A3 hRw
  go_wp2_with fail
  exact bodyPost_ret (results_cell_row rfl _ _ w.heap.size 65 #[.int .i64 0, .string n1, .int .i64 ps] (0, 0) _ rfl (set3 HA3.out) Tryz.underlying65 rfl (by kernel_rfl)) rfl ⟨rfl, RdGo.stored HS.out ⟨R3.out.1, G2.out.trans' R3.out.2⟩ (Nat.le_refl _) (grown3 _ _ _ _ _)⟩
theorem aggT_cases (t : ByteArray) : (t = bCount ∧ aggT t = 2) ∨ (¬ t = bCount ∧ t = bSum ∧ aggT t = 3) ∨ (¬ t = bCount ∧ ¬ t = bSum ∧ t = bMin ∧ aggT t = 4) ∨ (¬ t = bCount ∧ ¬ t = bSum ∧ ¬ t = bMin ∧ t = bMax ∧ aggT t = 5) ∨ (¬ t = bCount ∧ ¬ t = bSum ∧ ¬ t = bMin ∧ ¬ t = bMax ∧ aggT t = 0) := by
  unfold aggT
  by_cases h1 : t = bCount
  · exact .inl ⟨h1, if_pos h1⟩
  · rw [if_neg h1]
    by_cases h2 : t = bSum
    · exact .inr (.inl ⟨h1, h2, if_pos h2⟩)
    · rw [if_neg h2]
      by_cases h3 : t = bMin
      · exact .inr (.inr (.inl ⟨h1, h2, h3, if_pos h3⟩))
      · rw [if_neg h3]
        by_cases h4 : t = bMax
        · exact .inr (.inr (.inr (.inl ⟨h1, h2, h3, h4, if_pos h4⟩)))
        · exact .inr (.inr (.inr (.inr ⟨h1, h2, h3, h4, if_neg h4⟩)))
theorem took_yes (R b deep : Nat) (s : RS) (t : ByteArray) (w : World) (h : RdA R b deep s w) (ht : t ≠ ⟨#[]⟩) (hc : s.comes t = true) :
    Calls Tryz.prog 52 #[.pointer (some ⟨R, 0, none⟩), .string t] w fun e w' => e = .returned (.bool true) ∧ RdGo R b deep s.pass w w' := by
  have := took_any R b deep s t w h ht
  rw [hc] at this
  exact this
theorem took_no (R b deep : Nat) (s : RS) (t : ByteArray) (w : World) (h : RdA R b deep s w) (ht : t ≠ ⟨#[]⟩) (hc : s.comes t = false) :
    Calls Tryz.prog 52 #[.pointer (some ⟨R, 0, none⟩), .string t] w fun e w' => e = .returned (.bool false) ∧ RdGo R b deep s w w' := by
  have := took_any R b deep s t w h ht
  rw [hc] at this
  exact this
theorem comes_yes {s : RS} {t : ByteArray} (h : s.hd.text = t) : s.comes t = true := decide_eq_true h
theorem comes_no {s : RS} {t : ByteArray} (h : ¬ s.hd.text = t) : s.comes t = false := decide_eq_false h
set_option maxRecDepth 100000 in
theorem pagg_any (R b deep : Nat) (s : RS) (w : World) (h : RdA R b deep s w) :
    Calls Tryz.prog 92 #[.pointer (some ⟨R, 0, none⟩)] w fun e w' => e = .returned (.int .i64 (aggT s.hd.text : Nat)) ∧ RdGo R b deep (if aggT s.hd.text = 0 then s else s.pass) w w' := by
  have HY := Lib.hid (fun t (ht : t ≠ ⟨#[]⟩) (hc : s.comes t = true) W (hW : RdA R b deep s W) => took_yes R b deep s t W hW ht hc)
  have HN := Lib.hid (fun t (ht : t ≠ ⟨#[]⟩) (hc : s.comes t = false) W (hW : RdA R b deep s W) => took_no R b deep s t W hW ht hc)
  have HS := Lib.hid h
  rcases aggT_cases s.hd.text with ⟨h1, e⟩ | ⟨h1, h2, e⟩ | ⟨h1, h2, h3, e⟩ | ⟨h1, h2, h3, h4, e⟩ | ⟨h1, h2, h3, h4, e⟩
  · rw [e]
    have H1 := Lib.hid (HY.out bCount (by decide) (comes_yes h1))
    clear h h1 e HY HN
    go_enter Tryz.func92, Tryz.ntmps92
    go_wp2_with fail
    refine (H1.out _ HS.out).mono ?_
    rintro e w2 ⟨rfl, hr⟩
    go_wp2_with fail
    go_ret
    exact ⟨rfl, hr⟩
  · rw [e]
    have H1 := Lib.hid (HN.out bCount (by decide) (comes_no h1))
    have H2 := Lib.hid (HY.out bSum (by decide) (comes_yes h2))
    clear h h1 h2 e HY HN
    go_enter Tryz.func92, Tryz.ntmps92
    go_wp2_with fail
    refine (H1.out _ HS.out).mono ?_
    rintro e w2 ⟨rfl, hr⟩
    have R2 := Lib.hid hr
    clear hr
    go_wp2_with fail
    refine (H2.out _ R2.out.1).mono ?_
    rintro e w3 ⟨rfl, hr⟩
    go_wp2_with fail
    go_ret
    exact ⟨rfl, R2.out.then hr⟩
  · rw [e]
    have H1 := Lib.hid (HN.out bCount (by decide) (comes_no h1))
    have H2 := Lib.hid (HN.out bSum (by decide) (comes_no h2))
    have H3 := Lib.hid (HY.out bMin (by decide) (comes_yes h3))
    clear h h1 h2 h3 e HY HN
    go_enter Tryz.func92, Tryz.ntmps92
    go_wp2_with fail
    refine (H1.out _ HS.out).mono ?_
    rintro e w2 ⟨rfl, hr⟩
    have R2 := Lib.hid hr
    clear hr
    go_wp2_with fail
    refine (H2.out _ R2.out.1).mono ?_
    rintro e w3 ⟨rfl, hr⟩
    have R3 := Lib.hid (R2.out.then hr)
    clear hr
    go_wp2_with fail
    refine (H3.out _ R3.out.1).mono ?_
    rintro e w4 ⟨rfl, hr⟩
    go_wp2_with fail
    go_ret
    exact ⟨rfl, R3.out.then hr⟩
  · rw [e]
    have H1 := Lib.hid (HN.out bCount (by decide) (comes_no h1))
    have H2 := Lib.hid (HN.out bSum (by decide) (comes_no h2))
    have H3 := Lib.hid (HN.out bMin (by decide) (comes_no h3))
    have H4 := Lib.hid (HY.out bMax (by decide) (comes_yes h4))
    clear h h1 h2 h3 h4 e HY HN
    go_enter Tryz.func92, Tryz.ntmps92
    go_wp2_with fail
    refine (H1.out _ HS.out).mono ?_
    rintro e w2 ⟨rfl, hr⟩
    have R2 := Lib.hid hr
    clear hr
    go_wp2_with fail
    refine (H2.out _ R2.out.1).mono ?_
    rintro e w3 ⟨rfl, hr⟩
    have R3 := Lib.hid (R2.out.then hr)
    clear hr
    go_wp2_with fail
    refine (H3.out _ R3.out.1).mono ?_
    rintro e w4 ⟨rfl, hr⟩
    have R4 := Lib.hid (R3.out.then hr)
    clear hr
    go_wp2_with fail
    refine (H4.out _ R4.out.1).mono ?_
    rintro e w5 ⟨rfl, hr⟩
    go_wp2_with fail
    go_ret
    exact ⟨rfl, R4.out.then hr⟩
  · rw [e]
    have H1 := Lib.hid (HN.out bCount (by decide) (comes_no h1))
    have H2 := Lib.hid (HN.out bSum (by decide) (comes_no h2))
    have H3 := Lib.hid (HN.out bMin (by decide) (comes_no h3))
    have H4 := Lib.hid (HN.out bMax (by decide) (comes_no h4))
    clear h h1 h2 h3 h4 e HY HN
    go_enter Tryz.func92, Tryz.ntmps92
    go_wp2_with fail
    refine (H1.out _ HS.out).mono ?_
    rintro e w2 ⟨rfl, hr⟩
    have R2 := Lib.hid hr
    clear hr
    go_wp2_with fail
    refine (H2.out _ R2.out.1).mono ?_
    rintro e w3 ⟨rfl, hr⟩
    have R3 := Lib.hid (R2.out.then hr)
    clear hr
    go_wp2_with fail
    refine (H3.out _ R3.out.1).mono ?_
    rintro e w4 ⟨rfl, hr⟩
    have R4 := Lib.hid (R3.out.then hr)
    clear hr
    go_wp2_with fail
    refine (H4.out _ R4.out.1).mono ?_
    rintro e w5 ⟨rfl, hr⟩
    go_wp2_with fail
    go_ret
    exact ⟨rfl, R4.out.then hr⟩
end Go.Proofs.YtjaclmoobfeikaaGreatDoor
namespace Go.Proofs.YtjaclmoobfeikaaGreatDoor
open Go.RowKit Go.Extern.Stop Go.Stop Go.Extern
namespace CkF
theorem noIsF (v : Value) (xT : TypeId) (w : World) : (Instr.typeAssert (.iface 90 v) xT 200 true).run Tryz.prog w = .ok (.tuple #[.nilIface, .bool false]) w := run_typeAssert_lacksB Tryz.underlying200 (by kernel_rfl) (by kernel_rfl) v xT w
theorem hasUnwrapF (v : Value) (xT : TypeId) (w : World) : (Instr.typeAssert (.iface 90 v) xT 144 true).run Tryz.prog w = .ok (.tuple #[.iface 90 v, .bool true]) w := run_typeAssert_hasB Tryz.underlying144 (by kernel_rfl) v xT w
theorem methodUnwrapF (v : Value) (w : World) : (Go.method 397 90 v "Unwrap").run Tryz.prog w = .ok (212, v) w := by kernel_rfl
set_option maxRecDepth 100000 in
set_option maxHeartbeats 8000000 in
/-- errors.Is(fault, x), where the fault wraps x. -/
theorem is_fault_same (x : Int) (b : Addr) (w : World) :
    Calls Tryz.prog 48 #[.iface 90 (.agg #[.int .i64 x, .iface 256 (.pointer (some b))]), .iface 256 (.pointer (some b))] w fun e w' => e = .returned (.bool true) ∧ w.grownBy w' none := by
  obtain ⟨i, hi, hcmp⟩ := Option.map_eq_some_iff.1 isCompL
  obtain ⟨j, hj, hjs⟩ := Option.map_eq_some_iff.1 isSizeL
  have h8 := @run_callFunc_extern Tryz.prog 64 _ Extern.ReflectliteType.typeOf Tryz.func64 (by kernel_rfl) (by kernel_rfl) (by kernel_rfl) (by kernel_rfl)
  have h32 := @run_callFunc_extern Tryz.prog 220 _ (Extern.ReflectliteType.method fun t => do Go.Extern.Rtype.noPackHeld "Comparable" t; pure (.bool (← typeInfo t).comparable)) Tryz.func220 (by kernel_rfl) (by kernel_rfl) (by kernel_rfl) (by kernel_rfl)
  have tT := isTypeOfL
  have cT := isComparableL
  have mR := isMethodComparableL
  have nE := noIsE
  have uE := noUnwrapE
  have vE := noUnwrapsE
  have nW := noIsF
  have uW := hasUnwrapF
  have mU := methodUnwrapF
  have heq := fun w => run_eql_iface_ptr_same (P := Tryz.prog) w b Tryz.underlying69 Tryz.underlying256 hi hcmp hj
  have hty := fun w => run_eql_iface_types (P := Tryz.prog) 90 256 (.agg #[.int .i64 x, .iface 256 (.pointer (some b))]) (.pointer (some b)) Tryz.underlying69 (by decide) w
  go_enter Tryz.func48, Tryz.ntmps48
  go_wp2
  refine wp_loop_rounds 2 ?_
  rw [rounds_succ]
  go_wp2
  rw [rounds_succ]
  go_wp2
  go_ret
  exact ⟨rfl, by first | exact World.grownBy_alloc _ _ _ | exact (World.grownBy_alloc _ _ _).trans (World.grownBy_alloc _ _ _)⟩
set_option maxRecDepth 100000 in
set_option maxHeartbeats 8000000 in
/-- errors.Is(fault, x), where the fault wraps another one. -/
theorem is_fault_other (x : Int) (a b : Addr) (w : World) (hne : a ≠ b) (ha : ∃ c t, w.heap[a.block]? = some (.cells c t (0, 0))) (hb : ∃ c t, w.heap[b.block]? = some (.cells c t (0, 0))) :
    Calls Tryz.prog 48 #[.iface 90 (.agg #[.int .i64 x, .iface 256 (.pointer (some a))]), .iface 256 (.pointer (some b))] w fun e w' => e = .returned (.bool false) ∧ w.grownBy w' none := by
  obtain ⟨i, hi, hcmp⟩ := Option.map_eq_some_iff.1 isCompL
  obtain ⟨j, hj, hjs⟩ := Option.map_eq_some_iff.1 isSizeL
  have h8 := @run_callFunc_extern Tryz.prog 64 _ Extern.ReflectliteType.typeOf Tryz.func64 (by kernel_rfl) (by kernel_rfl) (by kernel_rfl) (by kernel_rfl)
  have h32 := @run_callFunc_extern Tryz.prog 220 _ (Extern.ReflectliteType.method fun t => do Go.Extern.Rtype.noPackHeld "Comparable" t; pure (.bool (← typeInfo t).comparable)) Tryz.func220 (by kernel_rfl) (by kernel_rfl) (by kernel_rfl) (by kernel_rfl)
  have tT := isTypeOfL
  have cT := isComparableL
  have mR := isMethodComparableL
  have nE := noIsE
  have uE := noUnwrapE
  have vE := noUnwrapsE
  have nW := noIsF
  have uW := hasUnwrapF
  have mU := methodUnwrapF
  obtain ⟨ca, ta, ha⟩ := ha
  obtain ⟨cb, tb, hb⟩ := hb
  have heq : ∀ o : Obj, (binOp .eql 69 (.iface 256 (.pointer (some a))) (.iface 256 (.pointer (some b)))).run Tryz.prog (w.alloc o) = .ok (.bool false) (w.alloc o) := fun o =>
    run_eql_iface_ptr_other (P := Tryz.prog) (w.alloc o) Tryz.underlying69 Tryz.underlying256 hi hcmp hj (by rw [hjs]; decide) hne (((World.grownBy_alloc w o none).block _ (heap_lt ha) (by simp)).trans ha) (((World.grownBy_alloc w o none).block _ (heap_lt hb) (by simp)).trans hb)
  clear ha hb hne
  have hty := fun w => run_eql_iface_types (P := Tryz.prog) 90 256 (.agg #[.int .i64 x, .iface 256 (.pointer (some a))]) (.pointer (some b)) Tryz.underlying69 (by decide) w
  go_enter Tryz.func48, Tryz.ntmps48
  go_wp2
  refine wp_loop_rounds 2 ?_
  rw [rounds_succ]
  go_wp2
  rw [rounds_succ]
  go_wp2
  go_ret
  exact ⟨rfl, by first | exact World.grownBy_alloc _ _ _ | exact (World.grownBy_alloc _ _ _).trans (World.grownBy_alloc _ _ _)⟩
end CkF
/-- check's five errors in memory, and errors' type. -/
structure CkEnv (G : Nat) (f : Nat → Addr) (w : World) : Prop where
  s14 : SenAt G 1 (f 14) [110, 111, 32, 115, 117, 99, 104, 32, 116, 97, 98, 108, 101] w
  s15 : SenAt G 2 (f 15) [110, 111, 32, 115, 117, 99, 104, 32, 99, 111, 108, 117, 109, 110] w
  s16 : SenAt G 3 (f 16) [116, 121, 112, 101, 115, 32, 116, 104, 97, 116, 32, 99, 108, 97, 115, 104] w
  s23 : SenAt G 4 (f 23) [103, 114, 111, 117, 112, 101, 100, 32, 98, 121, 32, 97, 32, 99, 111, 108, 117, 109, 110, 32, 116, 119, 105, 99, 101] w
  s17 : SenAt G 8 (f 17) [110, 101, 105, 116, 104, 101, 114, 32, 103, 114, 111, 117, 112, 101, 100, 32, 110, 111, 114, 32, 97, 110, 32, 97, 103, 103, 114, 101, 103, 97, 116, 101] w
  et : ErrT G w
  le : G ≤ w.heap.size
theorem CkEnv.keep {G : Nat} {f : Nat → Addr} {w w' : World} (h : CkEnv G f w) (hg : w.grownBy w' none) : CkEnv G f w' :=
  ⟨h.s14.keep hg, h.s15.keep hg, h.s16.keep hg, h.s23.keep hg, h.s17.keep hg, ⟨h.et.1, hg.cell h.et.2 (by simp)⟩, Nat.le_trans h.le hg.size⟩
theorem CkEnv.keepR {G : Nat} {f : Nat → Addr} {w w' : World} (h : CkEnv G f w) {b : Nat} (hg : w.grownBy w' (some b)) (hb : G ≤ b) : CkEnv G f w' := by
  have hel := h.et.1
  exact ⟨h.s14.keepR hg hb, h.s15.keepR hg hb, h.s16.keepR hg hb, h.s23.keepR hg hb, h.s17.keepR hg hb, ⟨hel, hg.cell h.et.2 (by simp; omega)⟩, Nat.le_trans h.le hg.size⟩
theorem CkEnv.ne {G : Nat} {f : Nat → Addr} {w : World} (h : CkEnv G f w) {c d : Nat} (hc : isCk c) (hd : isCk d) (hne : c ≠ d) : f c ≠ f d := by
  rcases hc with rfl | rfl | rfl | rfl | rfl <;> rcases hd with rfl | rfl | rfl | rfl | rfl
  · exact absurd rfl hne
  · exact h.s14.ne h.s15 (by decide)
  · exact h.s14.ne h.s16 (by decide)
  · exact h.s14.ne h.s17 (by decide)
  · exact h.s14.ne h.s23 (by decide)
  · exact h.s15.ne h.s14 (by decide)
  · exact absurd rfl hne
  · exact h.s15.ne h.s16 (by decide)
  · exact h.s15.ne h.s17 (by decide)
  · exact h.s15.ne h.s23 (by decide)
  · exact h.s16.ne h.s14 (by decide)
  · exact h.s16.ne h.s15 (by decide)
  · exact absurd rfl hne
  · exact h.s16.ne h.s17 (by decide)
  · exact h.s16.ne h.s23 (by decide)
  · exact h.s17.ne h.s14 (by decide)
  · exact h.s17.ne h.s15 (by decide)
  · exact h.s17.ne h.s16 (by decide)
  · exact absurd rfl hne
  · exact h.s17.ne h.s23 (by decide)
  · exact h.s23.ne h.s14 (by decide)
  · exact h.s23.ne h.s15 (by decide)
  · exact h.s23.ne h.s16 (by decide)
  · exact h.s23.ne h.s17 (by decide)
  · exact absurd rfl hne
theorem CkEnv.blk {G : Nat} {f : Nat → Addr} {w : World} (h : CkEnv G f w) {c : Nat} (hc : isCk c) : ∃ x t, w.heap[(f c).block]? = some (.cells x t (0, 0)) := by
  rcases hc with rfl | rfl | rfl | rfl | rfl
  · exact h.s14.blk
  · exact h.s15.blk
  · exact h.s16.blk
  · exact h.s17.blk
  · exact h.s23.blk
/-- The error of a number. -/
def ckV (f : Nat → Addr) (c : Nat) : Value := .iface 256 (.pointer (some (f c)))
def ckE (f : Nat → Addr) (c : Nat) : Value := if c = 0 then .nilIface else ckV f c
/-- What is wrong, and where. -/
def fltV (f : Nat → Addr) : Option (Nat × Nat) → Value
  | none => .nilIface
  | some e => .iface 90 (.agg #[.int .i64 (e.1 : Nat), ckV f e.2])
set_option maxHeartbeats 1600000 in
theorem ckNo_any (G : Nat) (f : Nat → Addr) (x : Int) (c : Nat) (hc : isCk c) (w : World) (hE : CkEnv G f w) :
    Calls Tryz.prog 31 #[.agg #[.int .i64 x, ckV f c]] w fun e w' => e = .returned (.int .i64 (c : Nat)) ∧ w.grownBy w' none := by
  unfold ckV
  have HS := Lib.hid (CkF.is_fault_same x (f c))
  have HE := Lib.hid hE
  have HO : Hid (∀ d, isCk d → c ≠ d → ∀ W, w.grownBy W none → Calls Tryz.prog 48 #[.iface 90 (.agg #[.int .i64 x, .iface 256 (.pointer (some (f c)))]), .iface 256 (.pointer (some (f d)))] W fun e w' => e = .returned (.bool false) ∧ W.grownBy w' none) := Lib.hid fun d hd hne W hW =>
    CkF.is_fault_other x _ _ W (hE.ne hc hd hne) ((hE.keep hW).blk hc) ((hE.keep hW).blk hd)
  have B := Lib.hid (box2X w (.int .i64 x) (.iface 256 (.pointer (some (f c)))) 90)
  have K0 := Lib.hid (World.grownBy_alloc w (.cells #[.int .i64 x, .iface 256 (.pointer (some (f c)))] 90) none)
  have e0 := (HE.out.keep K0.out).s14.var
  rcases hc with rfl | rfl | rfl | rfl | rfl
  · clear hE
    clear HO
    go_enter Tryz.func31, Tryz.ntmps31
    go_wp2_with fail
    refine (HS.out _).mono ?_
    rintro e w1 ⟨rfl, hg⟩
    have K1 := Lib.hid (K0.out.trans hg)
    clear hg
    go_wp2_with fail
    go_ret
    exact ⟨rfl, K1.out⟩
  · clear hE
    have O14 := Lib.hid (HO.out 14 (by unfold isCk; omega) (by decide))
    clear HO
    go_enter Tryz.func31, Tryz.ntmps31
    go_wp2_with fail
    refine (O14.out _ K0.out).mono ?_
    rintro e w1 ⟨rfl, hg⟩
    have K1 := Lib.hid (K0.out.trans hg)
    have b0_0 := hg.cell B.out.1 (by simp)
    have b1_0 := hg.cell B.out.2 (by simp)
    have e1 := (HE.out.keep K1.out).s15.var
    clear hg e0
    go_wp2_with fail
    refine (HS.out _).mono ?_
    rintro e w2 ⟨rfl, hg⟩
    have K2 := Lib.hid (K1.out.trans hg)
    clear hg
    go_wp2_with fail
    go_ret
    exact ⟨rfl, K2.out⟩
  · clear hE
    have O14 := Lib.hid (HO.out 14 (by unfold isCk; omega) (by decide))
    have O15 := Lib.hid (HO.out 15 (by unfold isCk; omega) (by decide))
    clear HO
    go_enter Tryz.func31, Tryz.ntmps31
    go_wp2_with fail
    refine (O14.out _ K0.out).mono ?_
    rintro e w1 ⟨rfl, hg⟩
    have K1 := Lib.hid (K0.out.trans hg)
    have b0_0 := hg.cell B.out.1 (by simp)
    have b1_0 := hg.cell B.out.2 (by simp)
    have e1 := (HE.out.keep K1.out).s15.var
    clear hg e0
    go_wp2_with fail
    refine (O15.out _ K1.out).mono ?_
    rintro e w2 ⟨rfl, hg⟩
    have K2 := Lib.hid (K1.out.trans hg)
    have b0_1 := hg.cell b0_0 (by simp)
    have b1_1 := hg.cell b1_0 (by simp)
    have e2 := (HE.out.keep K2.out).s16.var
    clear hg e1 b0_0 b1_0
    go_wp2_with fail
    refine (HS.out _).mono ?_
    rintro e w3 ⟨rfl, hg⟩
    have K3 := Lib.hid (K2.out.trans hg)
    clear hg
    go_wp2_with fail
    go_ret
    exact ⟨rfl, K3.out⟩
  · clear hE
    have O14 := Lib.hid (HO.out 14 (by unfold isCk; omega) (by decide))
    have O15 := Lib.hid (HO.out 15 (by unfold isCk; omega) (by decide))
    have O16 := Lib.hid (HO.out 16 (by unfold isCk; omega) (by decide))
    have O23 := Lib.hid (HO.out 23 (by unfold isCk; omega) (by decide))
    clear HO
    go_enter Tryz.func31, Tryz.ntmps31
    go_wp2_with fail
    refine (O14.out _ K0.out).mono ?_
    rintro e w1 ⟨rfl, hg⟩
    have K1 := Lib.hid (K0.out.trans hg)
    have b0_0 := hg.cell B.out.1 (by simp)
    have b1_0 := hg.cell B.out.2 (by simp)
    have e1 := (HE.out.keep K1.out).s15.var
    clear hg e0
    go_wp2_with fail
    refine (O15.out _ K1.out).mono ?_
    rintro e w2 ⟨rfl, hg⟩
    have K2 := Lib.hid (K1.out.trans hg)
    have b0_1 := hg.cell b0_0 (by simp)
    have b1_1 := hg.cell b1_0 (by simp)
    have e2 := (HE.out.keep K2.out).s16.var
    clear hg e1 b0_0 b1_0
    go_wp2_with fail
    refine (O16.out _ K2.out).mono ?_
    rintro e w3 ⟨rfl, hg⟩
    have K3 := Lib.hid (K2.out.trans hg)
    have b0_2 := hg.cell b0_1 (by simp)
    have b1_2 := hg.cell b1_1 (by simp)
    have e3 := (HE.out.keep K3.out).s23.var
    clear hg e2 b0_1 b1_1
    go_wp2_with fail
    refine (O23.out _ K3.out).mono ?_
    rintro e w4 ⟨rfl, hg⟩
    have K4 := Lib.hid (K3.out.trans hg)
    have b0_3 := hg.cell b0_2 (by simp)
    have b1_3 := hg.cell b1_2 (by simp)
    clear hg e3 b0_2 b1_2
    go_wp2_with fail
    go_ret
    exact ⟨rfl, K4.out⟩
  · clear hE
    have O14 := Lib.hid (HO.out 14 (by unfold isCk; omega) (by decide))
    have O15 := Lib.hid (HO.out 15 (by unfold isCk; omega) (by decide))
    have O16 := Lib.hid (HO.out 16 (by unfold isCk; omega) (by decide))
    clear HO
    go_enter Tryz.func31, Tryz.ntmps31
    go_wp2_with fail
    refine (O14.out _ K0.out).mono ?_
    rintro e w1 ⟨rfl, hg⟩
    have K1 := Lib.hid (K0.out.trans hg)
    have b0_0 := hg.cell B.out.1 (by simp)
    have b1_0 := hg.cell B.out.2 (by simp)
    have e1 := (HE.out.keep K1.out).s15.var
    clear hg e0
    go_wp2_with fail
    refine (O15.out _ K1.out).mono ?_
    rintro e w2 ⟨rfl, hg⟩
    have K2 := Lib.hid (K1.out.trans hg)
    have b0_1 := hg.cell b0_0 (by simp)
    have b1_1 := hg.cell b1_0 (by simp)
    have e2 := (HE.out.keep K2.out).s16.var
    clear hg e1 b0_0 b1_0
    go_wp2_with fail
    refine (O16.out _ K2.out).mono ?_
    rintro e w3 ⟨rfl, hg⟩
    have K3 := Lib.hid (K2.out.trans hg)
    have b0_2 := hg.cell b0_1 (by simp)
    have b1_2 := hg.cell b1_1 (by simp)
    have e3 := (HE.out.keep K3.out).s23.var
    clear hg e2 b0_1 b1_1
    go_wp2_with fail
    refine (HS.out _).mono ?_
    rintro e w4 ⟨rfl, hg⟩
    have K4 := Lib.hid (K3.out.trans hg)
    clear hg
    go_wp2_with fail
    go_ret
    exact ⟨rfl, K4.out⟩
end Go.Proofs.YtjaclmoobfeikaaGreatDoor
namespace Go.Proofs.YtjaclmoobfeikaaGreatDoor
open Go.RowKit

theorem cell1 {w : World} {b : Nat} {v0 v1 v2 u : Value} {T : TypeId} (h : w.heap[b]? = some (.cells #[v0, v1, v2] T (0, 0))) : (w.setCell ⟨b, 0, none⟩ u).heap[b]? = some (.cells #[u, v1, v2] T (0, 0)) := by
  simpa using heap_setCell_same _ _ 0 _ _ u h
theorem cell2 {w : World} {b : Nat} {v0 v1 v2 u : Value} {T : TypeId} (h : w.heap[b]? = some (.cells #[v0, v1, v2] T (0, 0))) : (w.setCell ⟨b, 1, none⟩ u).heap[b]? = some (.cells #[v0, u, v2] T (0, 0)) := by
  simpa using heap_setCell_same _ _ 1 _ _ u h
theorem blk_set {w : World} {g b i : Nat} {u : Value} {o : Obj} (h : w.heap[g]? = some o) (hne : g ≠ b) : (w.setCell ⟨b, i, none⟩ u).heap[g]? = some o := (heap_setCell_other w ⟨b, i, none⟩ g u hne).trans h
set_option maxRecDepth 100000 in
set_option maxHeartbeats 1600000 in
theorem pitem_plain (R b deep : Nat) (s : RS) (w : World) (h : RdA R b deep s w) (ha : aggT s.hd.text = 0) :
    Calls Tryz.prog 55 #[.pointer (some ⟨R, 0, none⟩)] w fun e w' => e = .returned (.agg #[.int .i64 0, .string (columnL s).2.col, .int .i64 (columnL s).2.pos]) ∧ RdGo R b deep ((columnL s).1) w w' := by
  have HC := Lib.hid (fun W (hW : w.grownBy W none) => comes_any R b deep s W (h.keep hW))
  have HA := Lib.hid (fun W (hW : w.grownBy W none) => pagg_any R b deep s W (h.keep hW))
  have HS := Lib.hid h
  have HO := Lib.hid (fun st W (hW : RdA R b deep st W) => need_any R b deep st bOpen W hW (by decide))
  have HZ := Lib.hid (fun st W (hW : RdA R b deep st W) => need_any R b deep st bShut W hW (by decide))
  have HN := Lib.hid (fun st W (hW : RdA R b deep st W) => pname_any R b deep st W hW)
  have HY := Lib.hid (fun st (hc : st.comes bStar = true) W (hW : RdA R b deep st W) => took_yes R b deep st bStar W hW (by decide) hc)
  have HX := Lib.hid (fun st (hc : st.comes bStar = false) W (hW : RdA R b deep st W) => took_no R b deep st bStar W hW (by decide) hc)
  have HL := Lib.hid (fun W (hW : RdA R b deep s W) => pcolumn_any R b deep s W hW)
  unfold Itm.c at HL
  rw [ha] at HA
  simp only [if_true] at HA
  have hz : (columnL s).2.agg = 0 := rfl
  rw [hz, show ((0 : Nat) : Int) = 0 from rfl] at HL
  rw [show ((0 : Nat) : Int) = 0 from rfl] at HA
  generalize (columnL s).2.col = cc at *
  generalize (columnL s).2.pos = cp at *
  generalize (columnL s).1 = cs at *
  clear h ha hz HO HZ HN HY HX
  generalize s.hd.kind = kd at *
  generalize s.hd.text = tx at *
  generalize s.hd.pos = ps at *
  go_enter Tryz.func55, Tryz.ntmps55
  have GA := Lib.hid (World.grownBy_alloc w (.cells #[.int .i64 0, .string ⟨#[]⟩, .int .i64 0] 65) none)
  go_wp2_with fail
  refine (HC.out _ GA.out).mono ?_
  rintro e w2 ⟨rfl, hg⟩
  have G2 := Lib.hid (GA.out.trans hg)
  have A2 := Lib.hid (blk_grown hg (heap_alloc_new w _))
  have t1 := field_tk2 (.int .i64 kd) (.string tx) (.int .i64 ps) w2
  clear hg
  go_wp2_with fail
  refine (HA.out _ G2.out).mono ?_
  rintro e w3 ⟨rfl, hr⟩
  have hRw := HS.out.lt'
  have A3 := Lib.hid (hr.blk A2.out (by omega))
  have R3 := Lib.hid (show RdGo R b deep s w w3 from ⟨hr.1, G2.out.trans' hr.2⟩)
  have Z3 := Lib.hid (show w.heap.size < w3.heap.size from Nat.lt_of_lt_of_le (Array.getElem?_eq_some_iff.1 A2.out).1 hr.2.size)
  clear hr t1
  go_wp2_with fail
  have R3b := R3.out.keep (World.grownBy_alloc w3 (.cells #[.int .i64 0, .string ⟨#[]⟩, .int .i64 ps] 65) none)
  have R3c := Lib.hid R3b
  have A3b := Lib.hid (blk_grown (World.grownBy_alloc w3 (.cells #[.int .i64 0, .string ⟨#[]⟩, .int .i64 ps] 65) none) A3.out)
  refine (HL.out _ R3b.1).mono ?_
  rintro e w4 ⟨rfl, hr⟩
  have A4 := hr.blk A3b.out (by omega)
  have R4 := Lib.hid (R3c.out.then hr)
  obtain ⟨⟨a0, a1, a2⟩, b0, b1, b2⟩ := three_of A4
  have HA4 := Lib.hid A4
  clear hr A4 R3b hRw
  go_wp2_with fail
  exact bodyPost_ret (results_cell_row rfl _ _ w.heap.size 65 #[.int .i64 0, .string cc, .int .i64 cp] (0, 0) _ rfl (set3 HA4.out) Tryz.underlying65 rfl (by kernel_rfl)) rfl ⟨rfl, RdGo.stored HS.out R4.out (Nat.le_refl _) (grown3 _ _ _ _ _)⟩
set_option maxRecDepth 100000 in
set_option maxHeartbeats 1600000 in
theorem pitem_star (R b deep : Nat) (s : RS) (w : World) (h : RdA R b deep s w) (ha : aggT s.hd.text = 2) (hst : (s.pass.need bOpen).comes bStar = true) :
    Calls Tryz.prog 55 #[.pointer (some ⟨R, 0, none⟩)] w fun e w' => e = .returned (.agg #[.int .i64 1, .string ⟨#[]⟩, .int .i64 s.hd.pos]) ∧ RdGo R b deep ((s.pass.need bOpen).pass.need bShut) w w' := by
  have HC := Lib.hid (fun W (hW : w.grownBy W none) => comes_any R b deep s W (h.keep hW))
  have HA := Lib.hid (fun W (hW : w.grownBy W none) => pagg_any R b deep s W (h.keep hW))
  have HS := Lib.hid h
  have HO := Lib.hid (fun st W (hW : RdA R b deep st W) => need_any R b deep st bOpen W hW (by decide))
  have HZ := Lib.hid (fun st W (hW : RdA R b deep st W) => need_any R b deep st bShut W hW (by decide))
  have HN := Lib.hid (fun st W (hW : RdA R b deep st W) => pname_any R b deep st W hW)
  have HY := Lib.hid (fun st (hc : st.comes bStar = true) W (hW : RdA R b deep st W) => took_yes R b deep st bStar W hW (by decide) hc)
  have HX := Lib.hid (fun st (hc : st.comes bStar = false) W (hW : RdA R b deep st W) => took_no R b deep st bStar W hW (by decide) hc)
  rw [ha, show ((2 : Nat) : Int) = 2 from rfl] at HA
  simp only [show ¬ (2 : Nat) = 0 by decide, if_false] at HA
  clear h ha HN HX
  generalize s.hd.kind = kd at *
  generalize s.hd.text = tx at *
  generalize s.hd.pos = ps at *
  go_enter Tryz.func55, Tryz.ntmps55
  have GA := Lib.hid (World.grownBy_alloc w (.cells #[.int .i64 0, .string ⟨#[]⟩, .int .i64 0] 65) none)
  go_wp2_with fail
  refine (HC.out _ GA.out).mono ?_
  rintro e w2 ⟨rfl, hg⟩
  have G2 := Lib.hid (GA.out.trans hg)
  have A2 := Lib.hid (blk_grown hg (heap_alloc_new w _))
  have t1 := field_tk2 (.int .i64 kd) (.string tx) (.int .i64 ps) w2
  clear hg
  go_wp2_with fail
  refine (HA.out _ G2.out).mono ?_
  rintro e w3 ⟨rfl, hr⟩
  have hRw := HS.out.lt'
  have A3 := Lib.hid (hr.blk A2.out (by omega))
  have R3 := Lib.hid (show RdGo R b deep s.pass w w3 from ⟨hr.1, G2.out.trans' hr.2⟩)
  have Z3 := Lib.hid (show w.heap.size < w3.heap.size from Nat.lt_of_lt_of_le (Array.getElem?_eq_some_iff.1 A2.out).1 hr.2.size)
  clear hr t1
  go_wp2_with fail
  have R3b := R3.out.keep (World.grownBy_alloc w3 (.cells #[.int .i64 2, .string ⟨#[]⟩, .int .i64 ps] 65) none)
  have R3c := Lib.hid R3b
  have A3b := Lib.hid (blk_grown (World.grownBy_alloc w3 (.cells #[.int .i64 2, .string ⟨#[]⟩, .int .i64 ps] 65) none) A3.out)
  refine (HO.out _ _ R3b.1).mono ?_
  rintro e w4 ⟨rfl, hr⟩
  have hz3 := Z3.out
  have A4 := Lib.hid (hr.blk A3b.out (by omega))
  have B4 := hr.blk (heap_alloc_new w3 (.cells #[.int .i64 2, .string ⟨#[]⟩, .int .i64 ps] 65)) (by omega)
  have R4 := Lib.hid (R3c.out.then hr)
  obtain ⟨⟨d0, d1, d2⟩, f0, f1, f2⟩ := three_of B4
  have HB4 := Lib.hid B4
  clear hr R3b B4 hz3
  go_wp2_with fail
  refine (HY.out _ hst _ R4.out.1).mono ?_
  rintro e w5 ⟨rfl, hr⟩
  have hz3 := Z3.out
  have A5 := Lib.hid (hr.blk A4.out (by omega))
  have B5 := hr.blk HB4.out (by omega)
  have R5 := Lib.hid (R4.out.then hr)
  clear d0 d1 d2 f0 f1 f2
  obtain ⟨⟨d0, d1, d2⟩, f0, f1, f2⟩ := three_of B5
  have HB5 := Lib.hid B5
  clear hr B5 hz3
  go_wp2_with fail
  have hz3 := Z3.out
  have hz0 := HS.out.lt'
  have RS_ := Lib.hid (RdGo.stored HS.out R5.out (Nat.le_of_lt Z3.out) (grown_cellR w5 w3.heap.size 0 (.int .i64 1)))
  have BS_ := Lib.hid (cell1 (u := .int .i64 1) HB5.out)
  have AS_ := Lib.hid (blk_set (b := w3.heap.size) (i := 0) (u := .int .i64 1) A5.out (by omega))
  refine (HZ.out _ _ RS_.out.1).mono ?_
  rintro e w9 ⟨rfl, hr⟩
  have A9 := hr.blk AS_.out (by omega)
  have B9 := hr.blk BS_.out (by omega)
  have R9 := Lib.hid (RS_.out.then hr)
  clear d0 d1 d2 f0 f1 f2
  obtain ⟨⟨a0, a1, a2⟩, b0, b1, b2⟩ := three_of A9
  obtain ⟨⟨d0, d1, d2⟩, f0, f1, f2⟩ := three_of B9
  have HA9 := Lib.hid A9
  clear hr A9 B9 hz3 hz0 hRw f0 f1 f2
  go_wp2_with fail
  exact bodyPost_ret (results_cell_row rfl _ _ w.heap.size 65 #[.int .i64 1, .string ⟨#[]⟩, .int .i64 ps] (0, 0) _ rfl (set3 HA9.out) Tryz.underlying65 rfl (by kernel_rfl)) rfl ⟨rfl, RdGo.stored HS.out R9.out (Nat.le_refl _) (grown3 _ _ _ _ _)⟩
set_option maxRecDepth 100000 in
set_option maxHeartbeats 1600000 in
theorem pitem_count (R b deep : Nat) (s : RS) (w : World) (h : RdA R b deep s w) (ha : aggT s.hd.text = 2) (hst : (s.pass.need bOpen).comes bStar = false) :
    Calls Tryz.prog 55 #[.pointer (some ⟨R, 0, none⟩)] w fun e w' => e = .returned (.agg #[.int .i64 2, .string (s.pass.need bOpen).name.2, .int .i64 s.hd.pos]) ∧ RdGo R b deep ((s.pass.need bOpen).name.1.need bShut) w w' := by
  have HC := Lib.hid (fun W (hW : w.grownBy W none) => comes_any R b deep s W (h.keep hW))
  have HA := Lib.hid (fun W (hW : w.grownBy W none) => pagg_any R b deep s W (h.keep hW))
  have HS := Lib.hid h
  have HO := Lib.hid (fun st W (hW : RdA R b deep st W) => need_any R b deep st bOpen W hW (by decide))
  have HZ := Lib.hid (fun st W (hW : RdA R b deep st W) => need_any R b deep st bShut W hW (by decide))
  have HN := Lib.hid (fun st W (hW : RdA R b deep st W) => pname_any R b deep st W hW)
  have HY := Lib.hid (fun st (hc : st.comes bStar = true) W (hW : RdA R b deep st W) => took_yes R b deep st bStar W hW (by decide) hc)
  have HX := Lib.hid (fun st (hc : st.comes bStar = false) W (hW : RdA R b deep st W) => took_no R b deep st bStar W hW (by decide) hc)
  rw [ha, show ((2 : Nat) : Int) = 2 from rfl] at HA
  simp only [show ¬ (2 : Nat) = 0 by decide, if_false] at HA
  obtain ⟨⟨n1, n2⟩, hnm⟩ : ∃ nm, (s.pass.need bOpen).name = nm := ⟨_, rfl⟩
  have Hnm := Lib.hid hnm
  rw [hnm]
  simp only
  clear h ha HY hnm
  generalize s.hd.kind = kd at *
  generalize s.hd.text = tx at *
  generalize s.hd.pos = ps at *
  go_enter Tryz.func55, Tryz.ntmps55
  have GA := Lib.hid (World.grownBy_alloc w (.cells #[.int .i64 0, .string ⟨#[]⟩, .int .i64 0] 65) none)
  go_wp2_with fail
  refine (HC.out _ GA.out).mono ?_
  rintro e w2 ⟨rfl, hg⟩
  have G2 := Lib.hid (GA.out.trans hg)
  have A2 := Lib.hid (blk_grown hg (heap_alloc_new w _))
  have t1 := field_tk2 (.int .i64 kd) (.string tx) (.int .i64 ps) w2
  clear hg
  go_wp2_with fail
  refine (HA.out _ G2.out).mono ?_
  rintro e w3 ⟨rfl, hr⟩
  have hRw := HS.out.lt'
  have A3 := Lib.hid (hr.blk A2.out (by omega))
  have R3 := Lib.hid (show RdGo R b deep s.pass w w3 from ⟨hr.1, G2.out.trans' hr.2⟩)
  have Z3 := Lib.hid (show w.heap.size < w3.heap.size from Nat.lt_of_lt_of_le (Array.getElem?_eq_some_iff.1 A2.out).1 hr.2.size)
  clear hr t1
  go_wp2_with fail
  have R3b := R3.out.keep (World.grownBy_alloc w3 (.cells #[.int .i64 2, .string ⟨#[]⟩, .int .i64 ps] 65) none)
  have R3c := Lib.hid R3b
  have A3b := Lib.hid (blk_grown (World.grownBy_alloc w3 (.cells #[.int .i64 2, .string ⟨#[]⟩, .int .i64 ps] 65) none) A3.out)
  refine (HO.out _ _ R3b.1).mono ?_
  rintro e w4 ⟨rfl, hr⟩
  have hz3 := Z3.out
  have A4 := Lib.hid (hr.blk A3b.out (by omega))
  have B4 := hr.blk (heap_alloc_new w3 (.cells #[.int .i64 2, .string ⟨#[]⟩, .int .i64 ps] 65)) (by omega)
  have R4 := Lib.hid (R3c.out.then hr)
  obtain ⟨⟨d0, d1, d2⟩, f0, f1, f2⟩ := three_of B4
  have HB4 := Lib.hid B4
  clear hr R3b B4 hz3
  go_wp2_with fail
  refine (HX.out _ hst _ R4.out.1).mono ?_
  rintro e w5 ⟨rfl, hr⟩
  have hz3 := Z3.out
  have A5 := Lib.hid (hr.blk A4.out (by omega))
  have B5 := hr.blk HB4.out (by omega)
  have R5 := Lib.hid (R4.out.then hr)
  clear d0 d1 d2 f0 f1 f2
  obtain ⟨⟨d0, d1, d2⟩, f0, f1, f2⟩ := three_of B5
  have HB5 := Lib.hid B5
  clear hr B5 hz3
  go_wp2_with fail
  have HN1 := Lib.hid (HN.out _ _ R5.out.1)
  rw [Hnm.out] at HN1
  simp only at HN1
  refine HN1.out.mono ?_
  rintro e w6 ⟨rfl, hr⟩
  have hz3 := Z3.out
  have A6 := Lib.hid (hr.blk A5.out (by omega))
  have B6 := hr.blk HB5.out (by omega)
  have R6 := Lib.hid (R5.out.then hr)
  clear d0 d1 d2 f0 f1 f2
  obtain ⟨⟨d0, d1, d2⟩, f0, f1, f2⟩ := three_of B6
  have HB6 := Lib.hid B6
  clear hr B6 hz3
  go_wp2_with fail
  have hz3 := Z3.out
  have hz0 := HS.out.lt'
  have RS_ := Lib.hid (RdGo.stored HS.out R6.out (Nat.le_of_lt Z3.out) (grown_cellR w6 w3.heap.size 1 (.string n2)))
  have BS_ := Lib.hid (cell2 (u := .string n2) HB6.out)
  have AS_ := Lib.hid (blk_set (b := w3.heap.size) (i := 1) (u := .string n2) A6.out (by omega))
  refine (HZ.out _ _ RS_.out.1).mono ?_
  rintro e w9 ⟨rfl, hr⟩
  have A9 := hr.blk AS_.out (by omega)
  have B9 := hr.blk BS_.out (by omega)
  have R9 := Lib.hid (RS_.out.then hr)
  clear d0 d1 d2 f0 f1 f2
  obtain ⟨⟨a0, a1, a2⟩, b0, b1, b2⟩ := three_of A9
  obtain ⟨⟨d0, d1, d2⟩, f0, f1, f2⟩ := three_of B9
  have HA9 := Lib.hid A9
  clear hr A9 B9 hz3 hz0 hRw f0 f1 f2
  go_wp2_with fail
  exact bodyPost_ret (results_cell_row rfl _ _ w.heap.size 65 #[.int .i64 2, .string n2, .int .i64 ps] (0, 0) _ rfl (set3 HA9.out) Tryz.underlying65 rfl (by kernel_rfl)) rfl ⟨rfl, RdGo.stored HS.out R9.out (Nat.le_refl _) (grown3 _ _ _ _ _)⟩
set_option maxRecDepth 100000 in
set_option maxHeartbeats 1600000 in
theorem pitem_other (R b deep : Nat) (s : RS) (w : World) (h : RdA R b deep s w) (ha : aggT s.hd.text ≠ 0) (hb : aggT s.hd.text ≠ 2) :
    Calls Tryz.prog 55 #[.pointer (some ⟨R, 0, none⟩)] w fun e w' => e = .returned (.agg #[.int .i64 (aggT s.hd.text : Nat), .string (s.pass.need bOpen).name.2, .int .i64 s.hd.pos]) ∧ RdGo R b deep ((s.pass.need bOpen).name.1.need bShut) w w' := by
  have HC := Lib.hid (fun W (hW : w.grownBy W none) => comes_any R b deep s W (h.keep hW))
  have HA := Lib.hid (fun W (hW : w.grownBy W none) => pagg_any R b deep s W (h.keep hW))
  have HS := Lib.hid h
  have HO := Lib.hid (fun st W (hW : RdA R b deep st W) => need_any R b deep st bOpen W hW (by decide))
  have HZ := Lib.hid (fun st W (hW : RdA R b deep st W) => need_any R b deep st bShut W hW (by decide))
  have HN := Lib.hid (fun st W (hW : RdA R b deep st W) => pname_any R b deep st W hW)
  have HY := Lib.hid (fun st (hc : st.comes bStar = true) W (hW : RdA R b deep st W) => took_yes R b deep st bStar W hW (by decide) hc)
  have HX := Lib.hid (fun st (hc : st.comes bStar = false) W (hW : RdA R b deep st W) => took_no R b deep st bStar W hW (by decide) hc)
  simp only [ha, if_false] at HA
  generalize aggT s.hd.text = ag at *
  have ha0 : ((ag : Int) == 0) = false := by rw [beq_eq_false_iff_ne]; omega
  have ha2 : ((ag : Int) == 2) = false := by rw [beq_eq_false_iff_ne]; omega
  obtain ⟨⟨n1, n2⟩, hnm⟩ : ∃ nm, (s.pass.need bOpen).name = nm := ⟨_, rfl⟩
  have Hnm := Lib.hid hnm
  rw [hnm]
  simp only
  clear h ha hb HY HX hnm
  generalize s.hd.kind = kd at *
  generalize s.hd.text = tx at *
  generalize s.hd.pos = ps at *
  go_enter Tryz.func55, Tryz.ntmps55
  have GA := Lib.hid (World.grownBy_alloc w (.cells #[.int .i64 0, .string ⟨#[]⟩, .int .i64 0] 65) none)
  go_wp2_with fail
  refine (HC.out _ GA.out).mono ?_
  rintro e w2 ⟨rfl, hg⟩
  have G2 := Lib.hid (GA.out.trans hg)
  have A2 := Lib.hid (blk_grown hg (heap_alloc_new w _))
  have t1 := field_tk2 (.int .i64 kd) (.string tx) (.int .i64 ps) w2
  clear hg
  go_wp2_with fail
  refine (HA.out _ G2.out).mono ?_
  rintro e w3 ⟨rfl, hr⟩
  have hRw := HS.out.lt'
  have A3 := Lib.hid (hr.blk A2.out (by omega))
  have R3 := Lib.hid (show RdGo R b deep s.pass w w3 from ⟨hr.1, G2.out.trans' hr.2⟩)
  have Z3 := Lib.hid (show w.heap.size < w3.heap.size from Nat.lt_of_lt_of_le (Array.getElem?_eq_some_iff.1 A2.out).1 hr.2.size)
  clear hr t1
  go_wp2_with fail
  have R3b := R3.out.keep (World.grownBy_alloc w3 (.cells #[.int .i64 ag, .string ⟨#[]⟩, .int .i64 ps] 65) none)
  have R3c := Lib.hid R3b
  have A3b := Lib.hid (blk_grown (World.grownBy_alloc w3 (.cells #[.int .i64 ag, .string ⟨#[]⟩, .int .i64 ps] 65) none) A3.out)
  refine (HO.out _ _ R3b.1).mono ?_
  rintro e w4 ⟨rfl, hr⟩
  have hz3 := Z3.out
  have A4 := Lib.hid (hr.blk A3b.out (by omega))
  have B4 := hr.blk (heap_alloc_new w3 (.cells #[.int .i64 ag, .string ⟨#[]⟩, .int .i64 ps] 65)) (by omega)
  have R4 := Lib.hid (R3c.out.then hr)
  obtain ⟨⟨d0, d1, d2⟩, f0, f1, f2⟩ := three_of B4
  have HB4 := Lib.hid B4
  clear hr R3b B4 hz3
  go_wp2_with fail
  have HN1 := Lib.hid (HN.out _ _ R4.out.1)
  rw [Hnm.out] at HN1
  simp only at HN1
  refine HN1.out.mono ?_
  rintro e w6 ⟨rfl, hr⟩
  have hz3 := Z3.out
  have A6 := Lib.hid (hr.blk A4.out (by omega))
  have B6 := hr.blk HB4.out (by omega)
  have R6 := Lib.hid (R4.out.then hr)
  clear d0 d1 d2 f0 f1 f2
  obtain ⟨⟨d0, d1, d2⟩, f0, f1, f2⟩ := three_of B6
  have HB6 := Lib.hid B6
  clear hr B6 hz3
  go_wp2_with fail
  have hz3 := Z3.out
  have hz0 := HS.out.lt'
  have RS_ := Lib.hid (RdGo.stored HS.out R6.out (Nat.le_of_lt Z3.out) (grown_cellR w6 w3.heap.size 1 (.string n2)))
  have BS_ := Lib.hid (cell2 (u := .string n2) HB6.out)
  have AS_ := Lib.hid (blk_set (b := w3.heap.size) (i := 1) (u := .string n2) A6.out (by omega))
  refine (HZ.out _ _ RS_.out.1).mono ?_
  rintro e w9 ⟨rfl, hr⟩
  have A9 := hr.blk AS_.out (by omega)
  have B9 := hr.blk BS_.out (by omega)
  have R9 := Lib.hid (RS_.out.then hr)
  clear d0 d1 d2 f0 f1 f2
  obtain ⟨⟨a0, a1, a2⟩, b0, b1, b2⟩ := three_of A9
  obtain ⟨⟨d0, d1, d2⟩, f0, f1, f2⟩ := three_of B9
  have HA9 := Lib.hid A9
  clear hr A9 B9 hz3 hz0 hRw f0 f1 f2
  go_wp2_with fail
  exact bodyPost_ret (results_cell_row rfl _ _ w.heap.size 65 #[.int .i64 ag, .string n2, .int .i64 ps] (0, 0) _ rfl (set3 HA9.out) Tryz.underlying65 rfl (by kernel_rfl)) rfl ⟨rfl, RdGo.stored HS.out R9.out (Nat.le_refl _) (grown3 _ _ _ _ _)⟩
theorem pitem_any (R b deep : Nat) (s : RS) (w : World) (h : RdA R b deep s w) :
    Calls Tryz.prog 55 #[.pointer (some ⟨R, 0, none⟩)] w fun e w' => e = .returned (.agg (itemL s).2.c.toArray) ∧ RdGo R b deep (itemL s).1 w w' := by
  unfold itemL Itm.c
  dsimp only
  by_cases h0 : aggT s.hd.text = 0
  · rw [if_pos h0]
    exact pitem_plain R b deep s w h h0
  · rw [if_neg h0]
    by_cases h2 : aggT s.hd.text = 2
    · cases hst : (s.pass.need bOpen).comes bStar with
      | true =>
        rw [if_pos ⟨h2, rfl⟩]
        exact pitem_star R b deep s w h h2 hst
      | false =>
        rw [if_neg (by simp)]
        rw [h2]
        exact pitem_count R b deep s w h h2 hst
    · rw [if_neg (by simp [h2])]
      exact pitem_other R b deep s w h h0 h2
end Go.Proofs.YtjaclmoobfeikaaGreatDoor
