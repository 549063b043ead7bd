/- The contracts of the program's digits and Text, out of the division's. -/
import Derived.Test.YtjgpflodbloneaaDoorFmt
import Derived.Test.YtjgpflodbloneaaDoorDigM
import Derived.Test.YtjgpflodbloneaaDoorCmpInt
import Derived.Lib.SmallJoins
namespace Go.Proofs.YtjgpflodbloneaaDoor
open Go.RowKit

theorem TabW.keep {w w' : World} (h : TabW w) (hb : Below w.heap.size w w') : TabW w' :=
  Joins.tab_stays (g := 8) (by kernel_rfl) h hb (Nat.le_refl _)
theorem ret_bytes {a b : ByteArray} (h : a.data.toList = b.data.toList) : Ending.returned (.string a) = .returned (.string b) := by
  have : a = b := by
    cases a; cases b
    simp at h
    rw [h]
  rw [this]

set_option maxHeartbeats 1600000 in
theorem div_low (lo : Nat) (w : World) (hlo : lo < 18446744073709551616) :
    Calls Tryd.prog 37 #[.int .u64 0, .int .u64 lo, .int .u64 10000000000000000000] w fun e w' => e = .returned (.tuple #[.int .u64 ((lo / 10000000000000000000 : Nat) : Int), .int .u64 ((lo % 10000000000000000000 : Nat) : Int)]) ∧ Below w.heap.size w w' := by
  go_enter Tryd.func37, Tryd.ntmps37
  go_wp2_with fail
  go_quiet (fail)
  go_wp2_with fail
  go_ret2
  exact ⟨by simp, below_drewN (Below.refl _ _) _⟩

set_option maxHeartbeats 1600000 in
/-- The digits, whatever the division and the numbers' texts answer. -/
theorem digits_short (h : Int) (hu l b : Nat) (t : ByteArray) (w : World) (hw : IntKind.u64.wrap h = (hu : Int))
    (HD : Hid (∀ w, Calls Tryd.prog 37 #[.int .u64 hu, .int .u64 l, .int .u64 10000000000000000000] w fun e w' => e = .returned (.tuple #[.int .u64 0, .int .u64 b]) ∧ Below w.heap.size w w'))
    (HF : Hid (∀ w, TabW w → Calls Tryd.prog 38 #[.int .u64 b, .int .i64 10] w fun e w' => e = .returned (.string t) ∧ Below w.heap.size w w')) (htab : TabW w) :
    Calls Tryd.prog 18 #[.agg #[.int .i64 h, .int .u64 l]] w fun e w' => e = .returned (.string t) ∧ Below w.heap.size w w' := by
  have HT := Lib.hid htab
  clear htab
  go_enter Tryd.func18, Tryd.ntmps18
  go_wp2_with fail
  refine (HD.out _).mono ?_
  rintro e w0 ⟨rfl, hb0⟩
  have T0 := Lib.hid ((HT.out.keep ((Below.refl w.heap.size w).alloc (Nat.le_refl _) (.cells #[.int .i64 h, .int .u64 l] 24))).keep hb0)
  go_wp2_with fail
  refine (HF.out _ T0.out).mono ?_
  rintro e w1 ⟨rfl, hb⟩
  go_wp2_with fail
  go_ret
  exact ⟨rfl, ((Below.refl _ _).alloc (Nat.le_refl _) _).trans ((hb0.trans (hb.mono hb0.size)).mono (by simp))⟩

set_option maxHeartbeats 1600000 in
theorem digits_long (h : Int) (hu l f b c : Nat) (s t z : ByteArray) (w : World) (hw : IntKind.u64.wrap h = (hu : Int)) (hf' : ((f : Int) == 0) = false)
    (ht : t.size ≤ 19) (hc : (19 : Int) - t.size = c) (hs : s.size ≤ 20) (hz : z.size ≤ 19)
    (HD : Hid (∀ w, Calls Tryd.prog 37 #[.int .u64 hu, .int .u64 l, .int .u64 10000000000000000000] w fun e w' => e = .returned (.tuple #[.int .u64 f, .int .u64 b]) ∧ Below w.heap.size w w'))
    (HF : Hid (∀ w, TabW w → Calls Tryd.prog 38 #[.int .u64 b, .int .i64 10] w fun e w' => e = .returned (.string t) ∧ Below w.heap.size w w'))
    (HG : Hid (∀ w, TabW w → Calls Tryd.prog 38 #[.int .u64 f, .int .i64 10] w fun e w' => e = .returned (.string s) ∧ Below w.heap.size w w'))
    (HR : Hid (∀ w, Calls Tryd.prog 39 #[.string ⟨#[48]⟩, .int .i64 c] w fun e w' => e = .returned (.string z) ∧ Below w.heap.size w w')) (htab : TabW w) :
    Calls Tryd.prog 18 #[.agg #[.int .i64 h, .int .u64 l]] w fun e w' => e = .returned (.string ⟨(s.data.toList ++ z.data.toList ++ t.data.toList).toArray⟩) ∧ Below w.heap.size w w' := by
  have HT := Lib.hid htab
  clear htab
  go_enter Tryd.func18, Tryd.ntmps18
  go_wp2_with fail
  refine (HD.out _).mono ?_
  rintro e w0 ⟨rfl, hb0⟩
  have T0 := Lib.hid ((HT.out.keep ((Below.refl w.heap.size w).alloc (Nat.le_refl _) (.cells #[.int .i64 h, .int .u64 l] 24))).keep hb0)
  go_wp2_with fail
  refine (HF.out _ T0.out).mono ?_
  rintro e w1 ⟨rfl, hb1⟩
  have T1 := Lib.hid (T0.out.keep hb1)
  go_wp2_with fail
  refine (HG.out _ T1.out).mono ?_
  rintro e w2 ⟨rfl, hb2⟩
  go_wp2_with fail
  refine (HR.out _).mono ?_
  rintro e w3 ⟨rfl, hb3⟩
  go_wp2_with fail
  go_ret
  refine ⟨ret_bytes (by simp), ?_⟩
  exact ((Below.refl _ _).alloc (Nat.le_refl _) _).trans ((hb0.trans ((hb1.trans ((hb2.trans (hb3.mono hb2.size)).mono hb1.size)).mono hb0.size)).mono (by simp))

theorem dl19 {b : Nat} (hb : b < 10000000000000000000) : 1 ≤ (Lib.decDigits b).length ∧ (Lib.decDigits b).length ≤ 19 := dig_len 18 b hb
/-- The digits, out of the division's answer. -/
theorem digits_any (h : Int) (hu l f b : Nat) (w : World) (hw : IntKind.u64.wrap h = (hu : Int)) (hf : f < 18446744073709551616) (hb : b < 10000000000000000000)
    (HD : Hid (∀ w, Calls Tryd.prog 37 #[.int .u64 hu, .int .u64 l, .int .u64 10000000000000000000] w fun e w' => e = .returned (.tuple #[.int .u64 f, .int .u64 b]) ∧ Below w.heap.size w w')) (htab : TabW w) :
    Calls Tryd.prog 18 #[.agg #[.int .i64 h, .int .u64 l]] w fun e w' => e = .returned (.string ⟨(Lib.decDigits (f * 10000000000000000000 + b)).toArray⟩) ∧ Below w.heap.size w w' := by
  have hl := dl19 hb
  by_cases h0 : f = 0
  · subst h0
    rw [Nat.zero_mul, Nat.zero_add]
    exact digits_short h hu l b _ w hw HD (Lib.hid fun w ht => format_any b (by omega) w ht) htab
  · have e := dig_blocks f (by omega) 18 b hb
    rw [show (10 : Nat) ^ (18 + 1) = 10000000000000000000 from rfl] at e
    rw [e]
    have hfl := dig_len 19 f (by omega)
    have hz : (Lib.repeatL [48] (18 + 1 - (Lib.decDigits b).length)).length = 18 + 1 - (Lib.decDigits b).length := by rw [Lib.repeatL_length]; simp
    have H := digits_long h hu l f b (18 + 1 - (Lib.decDigits b).length) ⟨(Lib.decDigits f).toArray⟩ ⟨(Lib.decDigits b).toArray⟩ ⟨(Lib.repeatL [48] (18 + 1 - (Lib.decDigits b).length)).toArray⟩ w hw (by simpa using h0)
      (by show (Lib.decDigits b).toArray.size ≤ 19; simpa using hl.2)
      (by show (19 : Int) - (((Lib.decDigits b).toArray.size : Nat) : Int) = _; simp; omega)
      (by show (Lib.decDigits f).toArray.size ≤ 20; simpa using hfl.2)
      (by show (Lib.repeatL [48] (18 + 1 - (Lib.decDigits b).length)).toArray.size ≤ 19; rw [List.size_toArray, hz]; omega)
      HD (Lib.hid fun w ht => format_any b (by omega) w ht) (Lib.hid fun w ht => format_any f hf w ht)
      (Lib.hid fun w => Tryd.strings_Repeat ⟨#[48]⟩ _ w (by omega) (by show 1 * _ ≤ _; omega)) htab
    exact H

/-- The text of the fixed fact's second sum. -/
theorem text_low (l : Nat) (w : World) (hl : l < 18446744073709551616) (htab : TabW w) :
    Calls Tryd.prog 6 #[.agg #[.int .i64 0, .int .u64 l]] w fun e w' => e = .returned (.string ⟨(Lib.decDigits l).toArray⟩) ∧ Below w.heap.size w w' := by
  have H0 : Hid (∀ w, TabW w → Calls Tryd.prog 18 #[.agg #[.int .i64 0, .int .u64 l]] w fun e w' => e = .returned (.string ⟨(Lib.decDigits l).toArray⟩) ∧ Below w.heap.size w w') := Lib.hid fun w ht => by
    have := digits_any 0 0 l (l / 10000000000000000000) (l % 10000000000000000000) w rfl (by omega) (Nat.mod_lt _ (by decide)) (Lib.hid fun w => div_low l w hl) ht
    rw [show l / 10000000000000000000 * 10000000000000000000 + l % 10000000000000000000 = l by omega] at this
    exact this
  obtain ⟨t, ht⟩ : ∃ t : ByteArray, t = ⟨(Lib.decDigits l).toArray⟩ := ⟨_, rfl⟩
  rw [← ht] at H0 ⊢
  clear ht
  have HT := Lib.hid htab
  clear htab hl
  go_enter Tryd.func6, Tryd.ntmps6
  go_wp2_with fail
  refine (H0.out _ (HT.out.keep ((Below.refl _ _).alloc (Nat.le_refl _) _))).mono ?_
  rintro e w1 ⟨rfl, hb⟩
  go_wp2_with fail
  go_ret
  exact ⟨rfl, ((Below.refl _ _).alloc (Nat.le_refl _) _).trans (hb.mono (by simp))⟩
end Go.Proofs.YtjgpflodbloneaaDoor
