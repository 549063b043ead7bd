/- Contracts of schema's holds, fit and Row. -/
import Derived.Test.YtampkmmfkdekaaaDoorSchR
import Derived.Test.YtampkmmfkdekaaaDoorGoodP
namespace Go.Proofs.YtampkmmfkdekaaaDoor
open Go.RowKit

theorem grown_below6 {w w' : World} (h : Below w.heap.size w w') (row : Option Nat) : w.grownBy w' row := ⟨h.os, h.tape, h.output, h.size, fun i hi _ => h.block i hi⟩
/-- A value of a row. -/
structure Vv where
  k : Int
  n : Int
  s : ByteArray
instance : Inhabited Vv := ⟨⟨0, 0, ⟨#[]⟩⟩⟩
def Vv.good (v : Vv) : Bool := goodB v.k v.n v.s
/-- May the column have the value? -/
def holdsB (c : Cl) (v : Vv) : Bool := v.good && (decide (v.k = c.k) || (decide (v.k = 0) && c.b))
set_option maxRecDepth 100000 in
set_option maxHeartbeats 3200000 in
theorem holds_any (c : Cl) (v : Vv) (w : World) :
    Calls Tryd.prog 16 #[.agg #[.string c.n, .int .i64 c.k, .bool c.b], .agg #[.int .i64 v.k, .int .i64 v.n, .string v.s]] w fun e w' => e = .returned (.bool (holdsB c v)) ∧ w.grownBy w' none := by
  obtain ⟨cn, ck, cb⟩ := c
  obtain ⟨vk, vn, vs⟩ := v
  have HG := Lib.hid (fun W => good_any vk vn vs W)
  have hB1 := box3_new6 w (.string cn) (.int .i64 ck) (.bool cb) 39
  have hB2 := box3_new6 (w.alloc (.cells #[.string cn, .int .i64 ck, .bool cb] 39)) (.int .i64 vk) (.int .i64 vn) (.string vs) 29
  have hsz : (w.alloc (.cells #[.string cn, .int .i64 ck, .bool cb] 39)).heap.size = w.heap.size + 1 := by simp
  rw [hsz] at hB2
  have k1 := (World.grownBy_alloc (w.alloc (.cells #[.string cn, .int .i64 ck, .bool cb] 39)) (.cells #[.int .i64 vk, .int .i64 vn, .string vs] 29) none)
  have HB := Lib.hid (And.intro (k1.cell hB1.2.1 (by simp)) (And.intro (k1.cell hB1.2.2 (by simp)) hB2))
  have K0 := Lib.hid ((World.grownBy_alloc w (.cells #[.string cn, .int .i64 ck, .bool cb] 39) none).trans k1)
  clear hB1 hB2 k1 hsz
  unfold holdsB Vv.good
  simp only
  have key : (goodB vk vn vs = false) ∨ (goodB vk vn vs = true ∧ ((vk = ck) ∨ (vk ≠ ck ∧ (vk ≠ 0 ∨ (vk = 0 ∧ (cb = true ∨ cb = false)))))) := by
    cases goodB vk vn vs <;> cases cb <;> simp <;> omega
  rcases key with h | ⟨h, h1 | ⟨h1, h2 | ⟨h2, h3 | h3⟩⟩⟩
  · rw [h] at HG ⊢
    clear h
    go_enter Tryd.func16, Tryd.ntmps16
    go_wp2_with fail
    refine (HG.out _).mono ?_
    rintro e w2 ⟨rfl, hb⟩
    have K2 := Lib.hid (K0.out.trans (grown_below6 hb none))
    clear hb
    go_wp2_with fail
    go_ret
    exact ⟨ret_bool (by simp), K2.out⟩
  · rw [h] at HG ⊢
    subst h1
    clear h
    go_enter Tryd.func16, Tryd.ntmps16
    go_wp2_with fail
    refine (HG.out _).mono ?_
    rintro e w2 ⟨rfl, hb⟩
    have hg := grown_below6 hb none
    have K2 := Lib.hid (K0.out.trans hg)
    obtain ⟨b1, b2, b3, b4, b5⟩ := HB.out
    have d1 := hg.cell b1 (by simp)
    have d2 := hg.cell b2 (by simp)
    have d3 := hg.cell b3 (by simp)
    clear hb b1 b2 b3 b4 b5 hg
    go_wp2_with fail
    go_ret
    exact ⟨ret_bool (by simp), K2.out⟩
  · rw [h] at HG ⊢
    clear h
    go_enter Tryd.func16, Tryd.ntmps16
    go_wp2_with fail
    refine (HG.out _).mono ?_
    rintro e w2 ⟨rfl, hb⟩
    have hg := grown_below6 hb none
    have K2 := Lib.hid (K0.out.trans hg)
    obtain ⟨b1, b2, b3, b4, b5⟩ := HB.out
    have d1 := hg.cell b1 (by simp)
    have d2 := hg.cell b2 (by simp)
    have d3 := hg.cell b3 (by simp)
    have t1 : (vk == ck) = false := beq_eq_false_iff_ne.2 h1
    have t2 : (vk == 0) = false := beq_eq_false_iff_ne.2 h2
    clear hb b1 b2 b3 b4 b5 hg
    go_wp2_with fail
    go_ret
    exact ⟨ret_bool (by simp [h1, h2]), K2.out⟩
  all_goals
    rw [h] at HG ⊢
    subst h2 h3
    clear h
    go_enter Tryd.func16, Tryd.ntmps16
    go_wp2_with fail
    refine (HG.out _).mono ?_
    rintro e w2 ⟨rfl, hb⟩
    have hg := grown_below6 hb none
    have K2 := Lib.hid (K0.out.trans hg)
    obtain ⟨b1, b2, b3, b4, b5⟩ := HB.out
    have d1 := hg.cell b1 (by simp)
    have d2 := hg.cell b2 (by simp)
    have d3 := hg.cell b3 (by simp)
    have t1 : ((0 : Int) == ck) = false := beq_eq_false_iff_ne.2 h1
    clear hb b1 b2 b3 b4 b5 hg
    go_wp2_with fail
    go_ret
    exact ⟨ret_bool (by simp [h1]), K2.out⟩
end Go.Proofs.YtampkmmfkdekaaaDoor
