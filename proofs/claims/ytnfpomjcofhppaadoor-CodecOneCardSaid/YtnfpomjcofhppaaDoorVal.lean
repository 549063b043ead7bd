/- Contracts of the program's ofInt and addValue (of good values), and of the document's Value. -/
import Derived.Test.YtnfpomjcofhppaaDoorStrg
import Derived.Test.YtnfpomjcofhppaaDoorGood
import Derived.Deep.RegionHeld3
import Derived.Deep.RegionLaw
import Derived.Test.YtnfpomjcofhppaaDoorStep4
namespace Go.Proofs.YtnfpomjcofhppaaDoor
open Go.RowKit

/-- The number as which an int is written. -/
def zig (n : Int) : Nat := if n < 0 then (-2 * n - 1).toNat else (2 * n).toNat
theorem zig_lt {n : Int} (h0 : -9223372036854775808 ≤ n) (h1 : n ≤ 9223372036854775807) : zig n < 18446744073709551616 := by
  unfold zig
  split <;> omega
/-- A good value's bytes. -/
def valB (k n : Int) (s : ByteArray) : List UInt8 :=
  if k = 1 then [if n = 0 then 1 else 2] else if k = 2 then 3 :: numB (zig n) else if k = 3 then 4 :: strB s else [0]

theorem not_i64 (n : Int) (h0 : -9223372036854775808 ≤ n) (h1 : n ≤ 9223372036854775807) : bits .xor .i64 (-1) n = -n - 1 := by
  show IntKind.i64.wrap ((BitVec.ofInt 64 (-1) ^^^ BitVec.ofInt 64 n).toNat : Int) = _
  have e : BitVec.ofInt 64 (-1) ^^^ BitVec.ofInt 64 n = ~~~ BitVec.ofInt 64 n := by
    rw [show BitVec.ofInt 64 (-1) = BitVec.allOnes 64 from by decide, BitVec.allOnes_xor]
  rw [e, BitVec.toNat_not, BitVec.toNat_ofInt]
  simp [IntKind.wrap, IntKind.signed, IntKind.bits]
  omega
theorem zig_below {n : Int} (h0 : -9223372036854775808 ≤ n) (hn : n < 0) : IntKind.u64.wrap (IntKind.u64.wrap (2 * IntKind.u64.wrap (-n - 1)) + 1) = (zig n : Nat) := by
  unfold zig
  rw [if_pos hn, wrap_u64 (x := -n - 1) (by omega) (by omega), wrap_u64 (x := 2 * (-n - 1)) (by omega) (by omega), wrap_u64 (by omega) (by omega)]
  omega

set_option maxHeartbeats 1600000 in
theorem ofInt_any (n : Int) (w : World) (h0 : -9223372036854775808 ≤ n) (h1 : n ≤ 9223372036854775807) :
    Calls Tryd.prog 29 #[.int .i64 n] w fun e w' => e = .returned (.int .u64 (zig n : Nat)) ∧ w = w' := by
  by_cases hn : n < 0
  · have hx := not_i64 n h0 h1
    have hz := zig_below h0 hn
    go_enter Tryd.func29, Tryd.ntmps29
    go_wp2_with fail
    go_ret
    exact ⟨ret_int (by first | rfl | simp [*]), rfl⟩
  · have hn' : 0 ≤ n := by omega
    go_enter Tryd.func29, Tryd.ntmps29
    go_wp2_with fail
    go_ret
    exact ⟨ret_int (by unfold zig; rw [if_neg (by omega)]; omega), rfl⟩

/-- A byte more, onto a slice of the call's own, as a step of a region that draws its order. -/
theorem OwnB.new1 (B : Nat) (W : World) (c : UInt8) (hB : B ≤ W.heap.size) : OwnB B (W.alloc (.cells #[bV c] 5)) (.slice (some ⟨W.heap.size, 0, none⟩) 1 1) [c] :=
  ⟨rfl, .inr ⟨W.heap.size, 1, #[bV c], rfl, hB, heap_alloc_new _ _, Nat.le_refl _, by unfold maxLen; omega, rfl, rfl⟩⟩

set_option maxRecDepth 100000 in
set_option maxHeartbeats 3200000 in
theorem addValue_0 (B : Nat) (v : Value) (l : List UInt8) (n : Int) (s : ByteArray) (w : World) (h : OwnB B w v l) (hB : B ≤ w.heap.size) (hl : l.length ≤ 100000000) :
    Calls Tryd.prog 21 #[v, .agg #[.int .i64 0, .int .i64 n, .string s]] w (Adds B w (l ++ [0])) := by
  have H := Lib.hid h
  clear h
  obtain ⟨i0, hi, hz0, hz1, hz2⟩ := info_parts u8_info
  go_enter Tryd.func21, Tryd.ntmps21
  go_wp2_with (at_builtin; refine wpList_append_own _ rfl _ _ 22 rfl B 5 i0 (.int .u8 0) 1 1 Tryd.underlying22 hi hz0 hz1 hz2 rfl (by decide) _ _ _ rfl ((H.out.alloc _).alloc _) ⟨w.heap.size + 1, 0, none⟩ 1 1 [.int .u8 0] rfl rfl ?c1 ?c2 ?c3 ?c4 ?c5 ?_)
  case c1 =>
    intro j u hj
    match j, hj with
    | 0, hj => simp at hj; subst hj; simp [Addr.add]
  case c2 => first | (intro u hu; simp at hu; subst hu; rfl) | rfl
  case c3 => unfold maxLen; omega
  case c4 => omega
  case c5 => first | omega | (simp; omega)
  intro v' w2 hown' hgrow _
  have ho2 := Lib.hid (((H.out.alloc _).alloc _).grown (w := w) (((Below.refl _ _).alloc hB _).alloc (by simp; omega) _) (by simp; omega) hgrow)
  have ho3 := Lib.hid (OwnB.more (x := [0]) rfl rfl hown')
  clear hown' hgrow
  go_wp2_with fail
  go_ret
  exact ⟨_, rfl, ho3.out, ho2.out⟩
set_option maxRecDepth 100000 in
set_option maxHeartbeats 3200000 in
theorem addValue_10 (B : Nat) (v : Value) (l : List UInt8) (s : ByteArray) (w : World) (h : OwnB B w v l) (hB : B ≤ w.heap.size) (hl : l.length ≤ 100000000) :
    Calls Tryd.prog 21 #[v, .agg #[.int .i64 1, .int .i64 0, .string s]] w (Adds B w (l ++ [1])) := by
  have H := Lib.hid h
  clear h
  obtain ⟨i0, hi, hz0, hz1, hz2⟩ := info_parts u8_info
  go_enter Tryd.func21, Tryd.ntmps21
  go_wp2_with (at_builtin; refine wpList_append_own _ rfl _ _ 22 rfl B 5 i0 (.int .u8 0) 1 1 Tryd.underlying22 hi hz0 hz1 hz2 rfl (by decide) _ _ _ rfl ((H.out.alloc _).alloc _) ⟨w.heap.size + 1, 0, none⟩ 1 1 [.int .u8 1] rfl rfl ?c1 ?c2 ?c3 ?c4 ?c5 ?_)
  case c1 =>
    intro j u hj
    match j, hj with
    | 0, hj => simp at hj; subst hj; simp [Addr.add]
  case c2 => first | (intro u hu; simp at hu; subst hu; rfl) | rfl
  case c3 => unfold maxLen; omega
  case c4 => omega
  case c5 => first | omega | (simp; omega)
  intro v' w2 hown' hgrow _
  have ho2 := Lib.hid (((H.out.alloc _).alloc _).grown (w := w) (((Below.refl _ _).alloc hB _).alloc (by simp; omega) _) (by simp; omega) hgrow)
  have ho3 := Lib.hid (OwnB.more (x := [1]) rfl rfl hown')
  clear hown' hgrow
  go_wp2_with fail
  go_ret
  exact ⟨_, rfl, ho3.out, ho2.out⟩
set_option maxRecDepth 100000 in
set_option maxHeartbeats 3200000 in
theorem addValue_11 (B : Nat) (v : Value) (l : List UInt8) (n : Int) (s : ByteArray) (hn : ¬ n = 0) (w : World) (h : OwnB B w v l) (hB : B ≤ w.heap.size) (hl : l.length ≤ 100000000) :
    Calls Tryd.prog 21 #[v, .agg #[.int .i64 1, .int .i64 n, .string s]] w (Adds B w (l ++ [2])) := by
  have H := Lib.hid h
  have hn' : (n == 0) = false := by simpa using hn
  clear h
  obtain ⟨i0, hi, hz0, hz1, hz2⟩ := info_parts u8_info
  go_enter Tryd.func21, Tryd.ntmps21
  go_wp2_with (at_builtin; refine wpList_append_own _ rfl _ _ 22 rfl B 5 i0 (.int .u8 0) 1 1 Tryd.underlying22 hi hz0 hz1 hz2 rfl (by decide) _ _ _ rfl ((H.out.alloc _).alloc _) ⟨w.heap.size + 1, 0, none⟩ 1 1 [.int .u8 2] rfl rfl ?c1 ?c2 ?c3 ?c4 ?c5 ?_)
  case c1 =>
    intro j u hj
    match j, hj with
    | 0, hj => simp at hj; subst hj; simp [Addr.add]
  case c2 => first | (intro u hu; simp at hu; subst hu; rfl) | rfl
  case c3 => unfold maxLen; omega
  case c4 => omega
  case c5 => first | omega | (simp; omega)
  intro v' w2 hown' hgrow _
  have ho2 := Lib.hid (((H.out.alloc _).alloc _).grown (w := w) (((Below.refl _ _).alloc hB _).alloc (by simp; omega) _) (by simp; omega) hgrow)
  have ho3 := Lib.hid (OwnB.more (x := [2]) rfl rfl hown')
  clear hown' hgrow
  go_wp2_with fail
  go_ret
  exact ⟨_, rfl, ho3.out, ho2.out⟩
theorem append_step {B : Nat} {w2 : World} {v' : Value} {l : List UInt8} {c : UInt8} {m : Nat} (hm : m = 1) (hown : w2.ownsRow B 5 1 v' (l.length + m) (l.map bV ++ [bV c])) : OwnB B w2 v' (l ++ [c]) := OwnB.more (x := [c]) hm rfl hown
theorem own_apart {B : Nat} {w : World} {v : Value} {l : List UInt8} (h : OwnB B w v l) : some w.heap.size ≠ v.ownBlock := fun e => by have := (h.lt _ e.symm).2; omega

set_option maxRecDepth 100000 in
set_option maxHeartbeats 3200000 in
theorem addValue_2 (B : Nat) (v : Value) (l : List UInt8) (n : Int) (s : ByteArray) (w : World) (h : OwnB B w v l) (hB : B ≤ w.heap.size) (hl : l.length ≤ 90000000) (h0 : -9223372036854775808 ≤ n) (h1 : n ≤ 9223372036854775807) :
    Calls Tryd.prog 21 #[v, .agg #[.int .i64 2, .int .i64 n, .string s]] w (Adds B w (l ++ 3 :: numB (zig n))) := by
  have H := Lib.hid h
  have HO := Lib.hid (fun w => ofInt_any n w h0 h1)
  have hz := zig_lt h0 h1
  generalize zig n = z at *
  have HN := Lib.hid (fun v w (h : OwnB B w v (l ++ [3])) (hB : B ≤ w.heap.size) => addNumber_any B v (l ++ [3]) z w h hB (by simp; omega) hz)
  have hr : l ++ 3 :: numB z = (l ++ [3]) ++ numB z := by simp
  rw [hr]
  have nb := Lib.hid (own_apart h)
  have hc : Hid ((w.alloc (.cells #[.int .i64 2, .int .i64 n, .string s] 30)).cell? ⟨w.heap.size, 1, none⟩ = some (.int .i64 n)) := Lib.hid (by simp)
  clear h hz h0 h1 hr
  generalize numB z = r at *
  obtain ⟨i0, hi, hz0, hz1, hz2⟩ := info_parts u8_info
  go_enter Tryd.func21, Tryd.ntmps21
  go_wp2_with fail
  go_region_law (first | (refine step_append_own _ (by rfl) (.tmp 25) (.tmp 26) _ (by rfl) B 5 i0 (.int .u8 0) 1 1 Tryd.underlying22 hi hz0 hz1 hz2 rfl (by decide) v l.length (l.map bV) (by rfl) ((H.out.alloc _).alloc _).drew ⟨w.heap.size + 1, 0, none⟩ 1 1 [.int .u8 3] (by rfl) rfl (by intro j u hj; match j, hj with | 0, hj => (simp at hj; subst hj; simp [Addr.add])) (by intro u hu; simp at hu; subst hu; rfl) (by unfold maxLen; omega) (by omega) (by simp; omega) ?_; intro v2 w3 hown3 hgrow3; have c3 : w3.cell? ⟨w.heap.size, 1, none⟩ = some (.int .i64 n) := (hgrow3.cell_far ⟨w.heap.size, 1, none⟩ (by simp; omega) nb.out).trans (by simp); have O3 := Lib.hid (append_step (c := 3) rfl hown3); have K3 := Lib.hid (((H.out.alloc (.cells #[.int .i64 2, .int .i64 n, .string s] 30)).alloc (.cells #[.int .u8 3] 5)).drew.grown (w := w) (((Below.refl _ _).alloc hB _).alloc (by simp; omega) _).drew (by simp; omega) hgrow3)) | (go_simp; go_at_call 29; (with_reducible refine (HO.out _).mono ?_); rintro e w' ⟨rfl, rfl⟩) | (go_simp; go_at_call 19; (with_reducible refine (HN.out _ _ O3.out (by have := K3.out.size; omega)).mono ?_); rintro e w4 ⟨v4, rfl, ho, hb⟩; have O4 := Lib.hid ho; have K4 := Lib.hid (K3.out.trans hb)))
  all_goals
    go_wp2_with fail
    go_ret
    exact ⟨_, rfl, O4.out, K4.out⟩
set_option maxRecDepth 100000 in
set_option maxHeartbeats 3200000 in
theorem addValue_3 (B : Nat) (v : Value) (l : List UInt8) (s : ByteArray) (w : World) (h : OwnB B w v l) (hB : B ≤ w.heap.size) (hl : l.length ≤ 90000000) (hs : s.size ≤ 60) :
    Calls Tryd.prog 21 #[v, .agg #[.int .i64 3, .int .i64 0, .string s]] w (Adds B w (l ++ 4 :: strB s)) := by
  have H := Lib.hid h
  have HN := Lib.hid (fun v w (h : OwnB B w v (l ++ [4])) (hB : B ≤ w.heap.size) => addString_any B v (l ++ [4]) s w h hB (by simp; omega) (by simp; omega))
  have hr : l ++ 4 :: strB s = (l ++ [4]) ++ strB s := by simp
  rw [hr]
  have nb := Lib.hid (own_apart h)
  clear h hr
  generalize strB s = r at *
  obtain ⟨i0, hi, hz0, hz1, hz2⟩ := info_parts u8_info
  go_enter Tryd.func21, Tryd.ntmps21
  go_wp2_with fail
  go_region_law (first | (refine step_append_own _ (by rfl) (.tmp 34) (.tmp 35) _ (by rfl) B 5 i0 (.int .u8 0) 1 1 Tryd.underlying22 hi hz0 hz1 hz2 rfl (by decide) v l.length (l.map bV) (by rfl) ((H.out.alloc _).alloc _).drew ⟨w.heap.size + 1, 0, none⟩ 1 1 [.int .u8 4] (by rfl) rfl (by intro j u hj; match j, hj with | 0, hj => (simp at hj; subst hj; simp [Addr.add])) (by intro u hu; simp at hu; subst hu; rfl) (by unfold maxLen; omega) (by omega) (by simp; omega) ?_; intro v2 w3 hown3 hgrow3; have c3 : w3.cell? ⟨w.heap.size, 2, none⟩ = some (.string s) := (hgrow3.cell_far ⟨w.heap.size, 2, none⟩ (by simp; omega) nb.out).trans (by simp); have O3 := Lib.hid (append_step (c := 4) rfl hown3); have K3 := Lib.hid (((H.out.alloc (.cells #[.int .i64 3, .int .i64 0, .string s] 30)).alloc (.cells #[.int .u8 4] 5)).drew.grown (w := w) (((Below.refl _ _).alloc hB _).alloc (by simp; omega) _).drew (by simp; omega) hgrow3)) | (go_simp; go_at_call 30; (with_reducible refine (HN.out _ _ O3.out (by have := K3.out.size; omega)).mono ?_); rintro e w4 ⟨v4, rfl, ho, hb⟩; have O4 := Lib.hid ho; have K4 := Lib.hid (K3.out.trans hb)))
  all_goals
    go_wp2_with fail
    go_ret
    exact ⟨_, rfl, O4.out, K4.out⟩

theorem OwnB.stay {B : Nat} {w w' : World} {v : Value} {l : List UInt8} (h : OwnB B w v l) (hb : Below w.heap.size w w') : OwnB B w' v l := by
  rcases h with ⟨h1, h2⟩
  refine ⟨h1, ?_⟩
  rcases h2 with h2 | ⟨g, cap, cur, hv, hg, hr, hrest⟩
  · exact .inl h2
  · refine .inr ⟨g, cap, cur, hv, hg, (hb.block g ?_).trans hr, hrest⟩
    rcases Nat.lt_or_ge g w.heap.size with h' | h'
    · exact h'
    · rw [Array.getElem?_eq_none h'] at hr; cases hr
theorem OwnB.src {B : Nat} {w : World} {v : Value} {l : List UInt8} (h : OwnB B w v l) (hl : 0 < l.length) : ∃ g cap, v = .slice (some ⟨g, 0, none⟩) l.length cap ∧ ∀ j u, (l.map bV)[j]? = some u → w.cell? ((⟨g, 0, none⟩ : Addr).add j) = some u := by
  rcases h.2 with ⟨_, h0⟩ | ⟨g, cap, cur, hv, _⟩
  · omega
  · exact ⟨g, cap, hv, fun j u hu => World.ownsRow.cells h (g := g) (by rw [hv]; rfl) j u hu⟩
theorem zig_ref {n : Int} (h0 : -9223372036854775808 ≤ n) (hn : n < 0) : IntKind.u64.wrap (IntKind.u64.wrap (-IntKind.u64.wrap (2 * IntKind.u64.wrap n)) - 1) = (zig n : Nat) := by
  unfold zig
  rw [if_pos hn]
  simp [IntKind.wrap, IntKind.signed, IntKind.bits]
  omega

end Go.Proofs.YtnfpomjcofhppaaDoor
