/- Contracts of what compares rows: the program's, by the library's slices.CompareFunc and slices.Equal, and the document's. -/
import Derived.Test.YtlmoefiajioeoaaMem
import Derived.BigQuiet
import Derived.Deep.RegionHeld3
namespace Go.Proofs.Ytlmoefiajioeoaa
open Go.RowKit

/-- value.Compare at two values of rows. -/
theorem cmpV_any (x y : Vl) (w : World) :
    Calls Try.prog 60 #[.agg #[.int .i64 x.k, .int .i64 x.n, .string x.s], .agg #[.int .i64 y.k, .int .i64 y.n, .string y.s]] w fun e w' => e = .returned (.int .i64 (x.ord y)) ∧ Below w.heap.size w w' := compare_any x.k x.n x.s y.k y.n y.s w

theorem size_of_mem {w : World} {a : Option Addr} {l : List Vl} (h : RowAt w a l) {k : Nat} (hk : k < l.length) : (l.getD k default).s.size ≤ maxLen :=
  h.2.1 _ (by simp [List.getD, hk])

theorem ro_go {l m : List Vl} {k : Nat} (hro : rowsOrd l m = rowsOrd (l.drop k) (m.drop k)) (h : k < l.length) (h' : k < m.length) (hz : (l.getD k default).ord (m.getD k default) = 0) : rowsOrd l m = rowsOrd (l.drop (k + 1)) (m.drop (k + 1)) := by
  rw [hro, ro_step h h', if_neg (by omega)]
theorem ro_stop {l m : List Vl} {k : Nat} {x y : Vl} (hro : rowsOrd l m = rowsOrd (l.drop k) (m.drop k)) (h : k < l.length) (h' : k < m.length) (hx : l.getD k default = x) (hy : m.getD k default = y) (hz : ¬ x.ord y = 0) : rowsOrd l m = x.ord y := by
  rw [hro, ro_step h h', hx, hy, if_pos hz]

set_option maxHeartbeats 800000 in
theorem compareFunc_any (a a' : Option Addr) (cap cap' : Nat) (l m : List Vl) (w : World) (h : RowAt w a l) (h' : RowAt w a' m) :
    Calls Try.prog 59 #[.slice a l.length cap, .slice a' m.length cap', .func (.func 60) #[] #[]] w fun e w' => e = .returned (.int .i64 (rowsOrd l m)) ∧ Below w.heap.size w w' := by
  have hm := h.1
  have hm' := h'.1
  have H := Lib.hid h
  have H' := Lib.hid h'
  clear h h'
  generalize hlen : l.length = len at *
  have Hlen := Lib.hid hlen
  clear hlen
  generalize hlen' : m.length = len' at *
  have Hlen' := Lib.hid hlen'
  clear hlen'
  go_enter Try.func59, Try.ntmps59
  go_wp2
  go_loopw [13] (fun i wr => ∃ k : Nat, k ≤ len ∧ k ≤ len' ∧ i = .int .i64 k ∧ Hid (rowsOrd l m = rowsOrd (l.drop k) (m.drop k)) ∧ Below w.heap.size w wr) (fun i _ => len - (intOf i).toNat)
  case atStart => exact ⟨0, Nat.zero_le _, Nat.zero_le _, rfl, rfl, Below.refl _ _⟩
  case round =>
    obtain ⟨k, hk, hk', rfl, hro, hbl⟩ := hrel
    by_cases hlt : k < len
    · obtain ⟨b, off, rfl, hbs, c0, c1, c2⟩ := (H.out.keep hbl).at (i := k) (by rw [Hlen.out]; exact hlt)
      generalize hx : l.getD k default = x at *
      have Hx := Lib.hid hx
      clear hx
      by_cases hlt' : k < len'
      · obtain ⟨b', off', rfl, hbs', d0, d1, d2⟩ := (H'.out.keep hbl).at (i := k) (by rw [Hlen'.out]; exact hlt')
        generalize hy : m.getD k default = y at *
        have Hy := Lib.hid hy
        clear hy
        by_cases hz : x.ord y = 0
        · have HC : Hid (∀ w, Calls Try.prog 60 #[.agg #[.int .i64 x.k, .int .i64 x.n, .string x.s], .agg #[.int .i64 y.k, .int .i64 y.n, .string y.s]] w fun e w' => e = .returned (.int .i64 0) ∧ Below w.heap.size w w') := Lib.hid fun w => hz ▸ cmpV_any x y w
          have Hz := Lib.hid hz
          clear hz
          go_wp2_with fail
          refine (HC.out _).mono ?_
          rintro e w1 ⟨rfl, hb⟩
          go_wp2_with fail
          go_roundw
          case rel => exact ⟨k + 1, by omega, by omega, by go_num, ro_go hro.out (by rw [Hlen.out]; exact hlt) (by rw [Hlen'.out]; exact hlt') (by rw [Hx.out, Hy.out]; exact Hz.out), (hbl.trans (below2 wr _ _ |>.mono hbl.size)).trans (hb.mono (by have := hbl.size; simp; omega))⟩
          case measure => simp [intOf]; omega
        · have HC : Hid (∀ w, Calls Try.prog 60 #[.agg #[.int .i64 x.k, .int .i64 x.n, .string x.s], .agg #[.int .i64 y.k, .int .i64 y.n, .string y.s]] w fun e w' => e = .returned (.int .i64 (x.ord y)) ∧ Below w.heap.size w w') := Lib.hid fun w => cmpV_any x y w
          have hro2 : Hid (rowsOrd l m = x.ord y) := Lib.hid (ro_stop hro.out (by rw [Hlen.out]; exact hlt) (by rw [Hlen'.out]; exact hlt') Hx.out Hy.out hz)
          have hn : (x.ord y != 0) = true := by simpa using hz
          clear hz
          generalize x.ord y = z at *
          go_wp2_with fail
          refine (HC.out _).mono ?_
          rintro e w1 ⟨rfl, hb⟩
          go_wp2_with fail
          go_ret
          exact ⟨ret_int hro2.out.symm, (hbl.trans (below2 wr _ _ |>.mono hbl.size)).trans (hb.mono (by have := hbl.size; simp; omega))⟩
      · have hn : (len' : Int) ≤ k := by omega
        go_wp2_with fail
        go_ret
        exact ⟨ret_int (by rw [hro.out, ro_end (fun q => hlt' (by rw [Hlen'.out] at q; exact q.2)) (by rw [Hlen.out]; exact hk) (by rw [Hlen'.out]; exact hk'), Hlen.out, Hlen'.out]; unfold cmp3; rw [if_neg (by omega), if_pos (by omega)]), (hbl.alloc hbl.size _)⟩
    · obtain rfl : k = len := by omega
      by_cases hlt' : k < len'
      · go_wp2_with fail
        go_ret
        exact ⟨ret_int (by rw [hro.out, ro_end (fun q => hlt (by rw [Hlen.out] at q; exact q.1)) (by rw [Hlen.out]; exact hk) (by rw [Hlen'.out]; exact hk'), Hlen.out, Hlen'.out]; unfold cmp3; rw [if_pos (by omega)]), hbl⟩
      · obtain rfl : k = len' := by omega
        go_wp2_with fail
        go_ret
        exact ⟨ret_int (by rw [hro.out, ro_end (fun q => hlt (by rw [Hlen.out] at q; exact q.1)) (by rw [Hlen.out]; exact hk) (by rw [Hlen'.out]; exact hk'), Hlen.out, Hlen'.out]; unfold cmp3; rw [if_neg (by omega), if_neg (by omega)]), hbl⟩

theorem good_at {l : List Vl} (h : l.all Vl.good = true) {k : Nat} (hk : k < l.length) : (l.getD k default).good = true := by
  rw [List.all_eq_true] at h
  exact h _ (by simp [List.getD, hk])

set_option maxHeartbeats 800000 in
theorem refRows_any (a a' : Option Addr) (cap cap' : Nat) (l m : List Vl) (w : World) (h : RowAt w a l) (h' : RowAt w a' m) (hg : l.all Vl.good = true) (hg' : m.all Vl.good = true) :
    Calls Try.prog 43 #[.slice a l.length cap, .slice a' m.length cap'] w fun e w' => e = .returned (.int .i64 (rowsOrd l m)) ∧ Below w.heap.size w w' := by
  have hm := h.1
  have hm' := h'.1
  have H := Lib.hid h
  have H' := Lib.hid h'
  have HG := Lib.hid (fun k hk => good_at hg (k := k) hk)
  have HG' := Lib.hid (fun k hk => good_at hg' (k := k) hk)
  clear h h' hg hg'
  generalize hlen : l.length = len at *
  have Hlen := Lib.hid hlen
  clear hlen
  generalize hlen' : m.length = len' at *
  have Hlen' := Lib.hid hlen'
  clear hlen'
  go_enter Try.func43, Try.ntmps43
  go_wp2
  go_loopw [5] (fun i wr => ∃ k : Nat, k ≤ len ∧ k ≤ len' ∧ i = .int .i64 k ∧ Hid (rowsOrd l m = rowsOrd (l.drop k) (m.drop k)) ∧ Below w.heap.size w wr) (fun i _ => len - (intOf i).toNat)
  case atStart => exact ⟨0, Nat.zero_le _, Nat.zero_le _, rfl, rfl, Below.refl _ _⟩
  case round =>
    obtain ⟨k, hk, hk', rfl, hro, hbl⟩ := hrel
    by_cases hlt : k < len
    · by_cases hlt' : k < len'
      · obtain ⟨b, off, rfl, hbs, c0, c1, c2⟩ := (H.out.keep hbl).at (i := k) (by rw [Hlen.out]; exact hlt)
        obtain ⟨b', off', rfl, hbs', d0, d1, d2⟩ := (H'.out.keep hbl).at (i := k) (by rw [Hlen'.out]; exact hlt')
        have gx := HG.out k hlt
        have gy := HG'.out k hlt'
        have sx := size_of_mem H.out (k := k) (by rw [Hlen.out]; exact hlt)
        generalize hx : l.getD k default = x at *
        have Hx := Lib.hid hx
        clear hx
        generalize hy : m.getD k default = y at *
        have Hy := Lib.hid hy
        clear hy
        have hcv := fun w => ordC_ordV (ak := x.k) (an := x.n) (sa := x.s) (bk := y.k) (bn := y.n) (sb := y.s) gx gy ▸ refCompare_any x.k x.n x.s y.k y.n y.s w sx
        have HV : Hid (∀ w, Calls Try.prog 54 #[.agg #[.int .i64 x.k, .int .i64 x.n, .string x.s], .agg #[.int .i64 y.k, .int .i64 y.n, .string y.s]] w fun e w' => e = .returned (.int .i64 (x.ord y)) ∧ Below w.heap.size w w') := Lib.hid hcv
        clear hcv gx gy sx
        by_cases hz : x.ord y = 0
        · have HC : Hid (∀ w, Calls Try.prog 54 #[.agg #[.int .i64 x.k, .int .i64 x.n, .string x.s], .agg #[.int .i64 y.k, .int .i64 y.n, .string y.s]] w fun e w' => e = .returned (.int .i64 0) ∧ Below w.heap.size w w') := Lib.hid fun w => hz ▸ HV.out w
          have Hz := Lib.hid hz
          clear hz HV
          go_wp2_with fail
          go_region_held3 (fun w' => w'.cell? ⟨b, off + k * 3, none⟩ = some (.int .i64 x.k) ∧ w'.cell? ⟨b, off + k * 3 + 1, none⟩ = some (.int .i64 x.n) ∧ w'.cell? ⟨b, off + k * 3 + 2, none⟩ = some (.string x.s) ∧ w'.cell? ⟨b', off' + k * 3, none⟩ = some (.int .i64 y.k) ∧ w'.cell? ⟨b', off' + k * 3 + 1, none⟩ = some (.int .i64 y.n) ∧ w'.cell? ⟨b', off' + k * 3 + 2, none⟩ = some (.string y.s)) (first | go_keep | exact ⟨(hb.cell (p := ⟨b, _, none⟩) hbs).trans c0, (hb.cell (p := ⟨b, _, none⟩) hbs).trans c1, (hb.cell (p := ⟨b, _, none⟩) hbs).trans c2, (hb.cell (p := ⟨b', _, none⟩) hbs').trans d0, (hb.cell (p := ⟨b', _, none⟩) hbs').trans d1, (hb.cell (p := ⟨b', _, none⟩) hbs').trans d2⟩) ((go_at_call 54; refine (HC.out _).mono ?_; rintro e w1 ⟨rfl, hb⟩))
          go_wp2_with fail
          go_roundw
          case rel => exact ⟨k + 1, by omega, by omega, by go_num, ro_go hro.out (by rw [Hlen.out]; exact hlt) (by rw [Hlen'.out]; exact hlt') (by rw [Hx.out, Hy.out]; exact Hz.out), hbl.drew.trans (hb.mono hbl.size)⟩
          case measure => simp [intOf]; omega
        · have hro2 : Hid (rowsOrd l m = x.ord y) := Lib.hid (ro_stop hro.out (by rw [Hlen.out]; exact hlt) (by rw [Hlen'.out]; exact hlt') Hx.out Hy.out hz)
          have hn : (x.ord y != 0) = true := by simpa using hz
          have HC := HV
          clear hz HV
          generalize x.ord y = z at *
          go_wp2_with fail
          go_region_held3 (fun w' => w'.cell? ⟨b, off + k * 3, none⟩ = some (.int .i64 x.k) ∧ w'.cell? ⟨b, off + k * 3 + 1, none⟩ = some (.int .i64 x.n) ∧ w'.cell? ⟨b, off + k * 3 + 2, none⟩ = some (.string x.s) ∧ w'.cell? ⟨b', off' + k * 3, none⟩ = some (.int .i64 y.k) ∧ w'.cell? ⟨b', off' + k * 3 + 1, none⟩ = some (.int .i64 y.n) ∧ w'.cell? ⟨b', off' + k * 3 + 2, none⟩ = some (.string y.s)) (first | go_keep | exact ⟨(hb.cell (p := ⟨b, _, none⟩) hbs).trans c0, (hb.cell (p := ⟨b, _, none⟩) hbs).trans c1, (hb.cell (p := ⟨b, _, none⟩) hbs).trans c2, (hb.cell (p := ⟨b', _, none⟩) hbs').trans d0, (hb.cell (p := ⟨b', _, none⟩) hbs').trans d1, (hb.cell (p := ⟨b', _, none⟩) hbs').trans d2⟩) ((go_at_call 54; refine (HC.out _).mono ?_; rintro e w1 ⟨rfl, hb⟩))
          go_wp2_with fail
          go_ret
          exact ⟨ret_int hro2.out.symm, hbl.drew.trans (hb.mono hbl.size)⟩
      · go_wp2_with (go_at_call 55; refine (ints_any _ _ _).mono ?_; rintro e w' ⟨rfl, rfl⟩)
        go_ret
        exact ⟨ret_int (by rw [hro.out, ro_end (fun q => hlt' (by rw [Hlen'.out] at q; exact q.2)) (by rw [Hlen.out]; exact hk) (by rw [Hlen'.out]; exact hk'), Hlen.out, Hlen'.out]), hbl⟩
    · go_wp2_with (go_at_call 55; refine (ints_any _ _ _).mono ?_; rintro e w' ⟨rfl, rfl⟩)
      go_ret
      exact ⟨ret_int (by rw [hro.out, ro_end (fun q => hlt (by rw [Hlen.out] at q; exact q.1)) (by rw [Hlen.out]; exact hk) (by rw [Hlen'.out]; exact hk'), Hlen.out, Hlen'.out]), hbl⟩

/-- value.Rows and value.Same call the library's. -/
theorem rows_any (a a' : Option Addr) (cap cap' : Nat) (l m : List Vl) (w : World) (h : RowAt w a l) (h' : RowAt w a' m) :
    Calls Try.prog 49 #[.slice a l.length cap, .slice a' m.length cap'] w fun e w' => e = .returned (.int .i64 (rowsOrd l m)) ∧ Below w.heap.size w w' := by
  have HC := Lib.hid (compareFunc_any a a' cap cap' l m w h h')
  clear h h'
  generalize l.length = len at *
  generalize m.length = len' at *
  go_enter Try.func49, Try.ntmps49
  go_wp2_with (go_at_call 59; refine HC.out.mono ?_; rintro e w1 ⟨rfl, hb⟩)
  go_ret
  exact ⟨rfl, hb⟩

theorem ne_ro {l m : List Vl} (h : l ≠ m) : (rowsOrd l m == 0) = false := by
  rw [beq_eq_false_iff_ne]
  exact fun e => h ((ro_zero l m).1 e)
theorem eq_ro {l m : List Vl} (h : l = m) : (rowsOrd l m == 0) = true := by
  rw [beq_iff_eq]
  exact (ro_zero l m).2 h
theorem take_go {l m : List Vl} {k : Nat} (h : k < l.length) (h' : k < m.length) (ht : l.take k = m.take k) (hx : l.getD k default = m.getD k default) : l.take (k + 1) = m.take (k + 1) := by
  rw [List.take_succ_eq_append_getElem h, List.take_succ_eq_append_getElem h', ht]
  simp only [List.getD, List.getElem?_eq_getElem h, List.getElem?_eq_getElem h', Option.getD_some] at hx
  rw [hx]

set_option maxHeartbeats 800000 in
theorem equal_any (a a' : Option Addr) (cap cap' : Nat) (l m : List Vl) (w : World) (h : RowAt w a l) (h' : RowAt w a' m) :
    Calls Try.prog 56 #[.slice a l.length cap, .slice a' m.length cap'] w fun e w' => e = .returned (.bool (rowsOrd l m == 0)) ∧ Below w.heap.size w w' := by
  by_cases hll : l.length = m.length
  · have hm := h.1
    have H := Lib.hid h
    have H' := Lib.hid h'
    clear h h'
    rw [← hll]
    generalize hlen : l.length = len at *
    have Hlen := Lib.hid hlen
    have Hlen' := Lib.hid hll.symm
    clear hlen hll
    go_enter Try.func56, Try.ntmps56
    go_wp2
    go_loopw [13] (fun i wr => ∃ k : Nat, k ≤ len ∧ i = .int .i64 k ∧ Hid (l.take k = m.take k) ∧ Below w.heap.size w wr) (fun i _ => len - (intOf i).toNat)
    case atStart => exact ⟨0, Nat.zero_le _, rfl, rfl, Below.refl _ _⟩
    case round =>
      obtain ⟨k, hk, rfl, htk, hbl⟩ := hrel
      by_cases hlt : k < len
      · obtain ⟨b, off, rfl, hbs, c0, c1, c2⟩ := (H.out.keep hbl).at (i := k) (by rw [Hlen.out]; exact hlt)
        obtain ⟨b', off', rfl, hbs', d0, d1, d2⟩ := (H'.out.keep hbl).at (i := k) (by rw [Hlen'.out]; exact hlt)
        generalize hx : l.getD k default = x at *
        have Hx := Lib.hid hx
        clear hx
        generalize hy : m.getD k default = y at *
        have Hy := Lib.hid hy
        clear hy
        obtain ⟨xk, xn, xs⟩ := x
        obtain ⟨yk, yn, ys⟩ := y
        simp only at c0 c1 c2 d0 d1 d2
        by_cases hne : (⟨xk, xn, xs⟩ : Vl) = ⟨yk, yn, ys⟩
        · obtain ⟨rfl, rfl, rfl⟩ := Vl.mk.inj hne
          clear hne
          go_wp2_with fail
          go_quiet (fail)
          go_wp2_with fail
          go_roundw
          case rel => exact ⟨k + 1, by omega, by go_num, take_go (by rw [Hlen.out]; exact hlt) (by rw [Hlen'.out]; exact hlt) htk.out (by rw [Hx.out, Hy.out]), below_drewN hbl _⟩
          case measure => simp [intOf]; omega
        · have HNE := Lib.hid hne
          clear hne
          by_cases h1 : xk = yk
          · subst h1
            by_cases h2 : xn = yn
            · subst h2
              have h3 : ¬ xs.toList = ys.toList := fun h => HNE.out (by rw [bytes_ext (a := xs) (b := ys) (by rw [← Lib.toList_data, ← Lib.toList_data, h])])
              go_wp2_with fail
              go_quiet (fail)
              go_wp2_with fail
              go_ret
              exact ⟨ret_bool (ne_ro (fun e => HNE.out (by rw [← Hx.out, ← Hy.out, e]))).symm, below_drewN hbl _⟩
            · go_wp2_with fail
              go_quiet (fail)
              go_wp2_with fail
              go_ret
              exact ⟨ret_bool (ne_ro (fun e => HNE.out (by rw [← Hx.out, ← Hy.out, e]))).symm, below_drewN hbl _⟩
          · go_wp2_with fail
            go_quiet (fail)
            go_wp2_with fail
            go_ret
            exact ⟨ret_bool (ne_ro (fun e => HNE.out (by rw [← Hx.out, ← Hy.out, e]))).symm, below_drewN hbl _⟩
      · obtain rfl : k = len := by omega
        go_wp2_with fail
        go_ret
        exact ⟨ret_bool (eq_ro (by have := htk.out; rwa [List.take_of_length_le (by rw [Hlen.out]; exact Nat.le_refl _), List.take_of_length_le (by rw [Hlen'.out]; exact Nat.le_refl _)] at this)).symm, hbl⟩
  · have hne : (rowsOrd l m == 0) = false := ne_ro (fun e => hll (by rw [e]))
    rw [hne]
    have hd : ((l.length : Int) != (m.length : Int)) = true := by rw [bne_iff_ne]; omega
    clear h h' hne hll
    generalize l.length = len at *
    generalize m.length = len' at *
    go_enter Try.func56, Try.ntmps56
    go_wp2_with fail
    go_ret
    exact ⟨rfl, Below.refl _ _⟩

set_option maxHeartbeats 800000 in
theorem refSame_any (a a' : Option Addr) (cap cap' : Nat) (l m : List Vl) (w : World) (h : RowAt w a l) (h' : RowAt w a' m) :
    Calls Try.prog 39 #[.slice a l.length cap, .slice a' m.length cap'] w fun e w' => e = .returned (.bool (rowsOrd l m == 0)) ∧ Below w.heap.size w w' := by
  by_cases hll : l.length = m.length
  · have hm := h.1
    have H := Lib.hid h
    have H' := Lib.hid h'
    clear h h'
    rw [← hll]
    generalize hlen : l.length = len at *
    have Hlen := Lib.hid hlen
    have Hlen' := Lib.hid hll.symm
    clear hlen hll
    go_enter Try.func39, Try.ntmps39
    go_wp2
    go_loopw [13] (fun i wr => ∃ k : Nat, k ≤ len ∧ i = .int .i64 k ∧ Hid (l.take k = m.take k) ∧ Below w.heap.size w wr) (fun i _ => len - (intOf i).toNat)
    case atStart => exact ⟨0, Nat.zero_le _, rfl, rfl, Below.refl _ _⟩
    case round =>
      obtain ⟨k, hk, rfl, htk, hbl⟩ := hrel
      by_cases hlt : k < len
      · obtain ⟨b, off, rfl, hbs, c0, c1, c2⟩ := (H.out.keep hbl).at (i := k) (by rw [Hlen.out]; exact hlt)
        obtain ⟨b', off', rfl, hbs', d0, d1, d2⟩ := (H'.out.keep hbl).at (i := k) (by rw [Hlen'.out]; exact hlt)
        generalize hx : l.getD k default = x at *
        have Hx := Lib.hid hx
        clear hx
        generalize hy : m.getD k default = y at *
        have Hy := Lib.hid hy
        clear hy
        obtain ⟨xk, xn, xs⟩ := x
        obtain ⟨yk, yn, ys⟩ := y
        simp only at c0 c1 c2 d0 d1 d2
        by_cases hne : (⟨xk, xn, xs⟩ : Vl) = ⟨yk, yn, ys⟩
        · obtain ⟨rfl, rfl, rfl⟩ := Vl.mk.inj hne
          clear hne
          go_wp2_with fail
          go_quiet (fail)
          go_wp2_with fail
          go_roundw
          case rel => exact ⟨k + 1, by omega, by go_num, take_go (by rw [Hlen.out]; exact hlt) (by rw [Hlen'.out]; exact hlt) htk.out (by rw [Hx.out, Hy.out]), below_drewN hbl _⟩
          case measure => simp [intOf]; omega
        · have HNE := Lib.hid hne
          clear hne
          by_cases h1 : xk = yk
          · subst h1
            by_cases h2 : xn = yn
            · subst h2
              have h3 : ¬ xs.toList = ys.toList := fun h => HNE.out (by rw [bytes_ext (a := xs) (b := ys) (by rw [← Lib.toList_data, ← Lib.toList_data, h])])
              go_wp2_with fail
              go_quiet (fail)
              go_wp2_with fail
              go_ret
              exact ⟨ret_bool (ne_ro (fun e => HNE.out (by rw [← Hx.out, ← Hy.out, e]))).symm, below_drewN hbl _⟩
            · go_wp2_with fail
              go_quiet (fail)
              go_wp2_with fail
              go_ret
              exact ⟨ret_bool (ne_ro (fun e => HNE.out (by rw [← Hx.out, ← Hy.out, e]))).symm, below_drewN hbl _⟩
          · go_wp2_with fail
            go_quiet (fail)
            go_wp2_with fail
            go_ret
            exact ⟨ret_bool (ne_ro (fun e => HNE.out (by rw [← Hx.out, ← Hy.out, e]))).symm, below_drewN hbl _⟩
      · obtain rfl : k = len := by omega
        go_wp2_with fail
        go_ret
        exact ⟨ret_bool (eq_ro (by have := htk.out; rwa [List.take_of_length_le (by rw [Hlen.out]; exact Nat.le_refl _), List.take_of_length_le (by rw [Hlen'.out]; exact Nat.le_refl _)] at this)).symm, hbl⟩
  · have hne : (rowsOrd l m == 0) = false := ne_ro (fun e => hll (by rw [e]))
    rw [hne]
    have hd : ((l.length : Int) != (m.length : Int)) = true := by rw [bne_iff_ne]; omega
    clear h h' hne hll
    generalize l.length = len at *
    generalize m.length = len' at *
    go_enter Try.func39, Try.ntmps39
    go_wp2_with fail
    go_ret
    exact ⟨rfl, Below.refl _ _⟩
end Go.Proofs.Ytlmoefiajioeoaa
