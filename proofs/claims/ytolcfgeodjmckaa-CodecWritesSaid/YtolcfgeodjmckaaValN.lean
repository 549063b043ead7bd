/- The contract of the document's Value of an int below 0. -/
import Derived.Test.YtolcfgeodjmckaaVal
namespace Go.Proofs.Ytolcfgeodjmckaa
open Go.RowKit

set_option maxRecDepth 100000 in
set_option maxHeartbeats 3200000 in
theorem refValue_2n (n : Int) (s : ByteArray) (w : World) (h0 : -9223372036854775808 ≤ n) (h1 : n ≤ 9223372036854775807) (hn : n < 0) :
    Calls Try.prog 11 #[.agg #[.int .i64 2, .int .i64 n, .string s]] w (Adds w.heap.size w (3 :: numB (zig n))) := by
  have hz := zig_lt h0 h1
  have hzz := zig_ref h0 hn
  have HN := Lib.hid (fun w => refNumber_any (zig n) w hz)
  have hl := numB_10 hz
  generalize zig n = z at *
  clear hz
  generalize numB z = r at *
  obtain ⟨i0, hi, hz0, hz1, hz2⟩ := info_parts u8_info
  go_enter Try.func11, Try.ntmps11
  go_wp2_with fail
  refine (HN.out _).mono ?_
  rintro e w1 ⟨v1, rfl, ho, hb⟩
  have s1 := hb.size
  simp only [World.size_alloc] at s1
  have K1 := Lib.hid ((((Below.refl w.heap.size w).alloc (Nat.le_refl _) (.cells #[.int .i64 2, .int .i64 n, .string s] 32)).alloc (by simp) (.cells #[.int .u8 3] 5)).trans (hb.mono (by simp; omega)))
  have O1 := Lib.hid ((OwnB.new1 w.heap.size (w.alloc (.cells #[.int .i64 2, .int .i64 n, .string s] 32)) 3 (by simp)).stay hb)
  simp only [World.size_alloc] at O1
  obtain ⟨g, cap, rfl, hsrc⟩ := ho.src (by omega)
  have HS := Lib.hid hsrc
  clear ho hb hsrc
  go_wp2_with (at_builtin; refine wpList_append_own _ rfl _ _ 28 rfl w.heap.size 5 i0 (.int .u8 0) 1 1 Try.underlying28 hi hz0 hz1 hz2 rfl (by decide) _ 1 [bV 3] rfl O1.out ⟨g, 0, none⟩ r.length cap (r.map bV) rfl (by simp) HS.out (bV_one _) ?c3 ?c4 ?c5 ?_)
  case c3 => unfold maxLen; omega
  case c4 => omega
  case c5 => omega
  intro v' w2 hown' hgrow _
  have O2 := Lib.hid (OwnB.more (l := [3]) (x := r) rfl rfl hown')
  have K2 := Lib.hid (O1.out.grown K1.out (by omega) hgrow)
  clear hown' hgrow
  go_wp2_with fail
  go_ret
  exact ⟨_, rfl, O2.out, K2.out⟩


theorem refValue_any (k n : Int) (s : ByteArray) (w : World) (h : goodB k n s = true) (h0 : -9223372036854775808 ≤ n) (h1 : n ≤ 9223372036854775807) :
    Calls Try.prog 11 #[.agg #[.int .i64 k, .int .i64 n, .string s]] w (Adds w.heap.size w (valB k n s)) := by
  unfold goodB at h
  unfold valB
  by_cases k0 : k = 0
  · subst k0
    exact refValue_0 n s w
  · rw [if_neg k0] at h
    by_cases k1 : k = 1
    · subst k1
      simp at h
      exact refValue_1 n h.1 s w
    · rw [if_neg k1] at h ⊢
      by_cases k2 : k = 2
      · subst k2
        by_cases hn : n < 0
        · exact refValue_2n n s w h0 h1 hn
        · exact refValue_2p n s w h0 h1 (by omega)
      · rw [if_neg k2] at h ⊢
        by_cases k3 : k = 3
        · subst k3
          simp at h
          obtain ⟨rfl, hs⟩ := h
          exact refValue_3 s w hs
        · rw [if_neg k3] at h
          cases h
theorem addValue_any (B : Nat) (v : Value) (l : List UInt8) (k n : Int) (s : ByteArray) (w : World) (h : goodB k n s = true) (h0 : -9223372036854775808 ≤ n) (h1 : n ≤ 9223372036854775807) (ho : OwnB B w v l) (hB : B ≤ w.heap.size) (hl : l.length ≤ 90000000) :
    Calls Try.prog 23 #[v, .agg #[.int .i64 k, .int .i64 n, .string s]] w (Adds B w (l ++ valB k n s)) := by
  unfold goodB at h
  unfold valB
  by_cases k0 : k = 0
  · subst k0
    exact addValue_0 B v l n s w ho hB (by omega)
  · rw [if_neg k0] at h
    by_cases k1 : k = 1
    · subst k1
      simp at h
      by_cases hn : n = 0
      · subst hn
        exact addValue_10 B v l s w ho hB (by omega)
      · rw [if_pos rfl, if_neg hn]
        exact addValue_11 B v l n s hn w ho hB (by omega)
    · rw [if_neg k1] at h ⊢
      by_cases k2 : k = 2
      · subst k2
        exact addValue_2 B v l n s w ho hB hl h0 h1
      · rw [if_neg k2] at h ⊢
        by_cases k3 : k = 3
        · subst k3
          simp at h
          obtain ⟨rfl, hs⟩ := h
          exact addValue_3 B v l s w ho hB hl hs
        · rw [if_neg k3] at h
          cases h
end Go.Proofs.Ytolcfgeodjmckaa
