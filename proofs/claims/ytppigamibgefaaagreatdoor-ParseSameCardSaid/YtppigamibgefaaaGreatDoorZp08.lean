/- Contracts of how the program reads a quoted text byte by byte. Contracts of what compares rows: the program's, by the library's slices.CompareFunc and slices.Equal, and the document's. The contract of value.readText. -/
import Derived.Test.YtppigamibgefaaaGreatDoorZp07
import Derived.Lib.IndexBytes
import Derived.BigQuiet
import Derived.Deep.RegionHeld3
import Derived.Laws.IdiomStrings
import Derived.Lib.UnsafeStr
namespace Go.Proofs.YtppigamibgefaaaGreatDoor
open Go.RowKit

theorem index_any (c : UInt8) (w : World) :
    Calls Tryz.prog 177 #[.string ⟨#[48, 49, 50, 51, 52, 53, 54, 55, 56, 57, 97, 98, 99, 100, 101, 102]⟩, .int .u8 c.toNat] w fun e w' => e = .returned (.int .i64 (hexI c)) ∧ w' = w :=
  (Tryz.strings_IndexByte ⟨#[48, 49, 50, 51, 52, 53, 54, 55, 56, 57, 97, 98, 99, 100, 101, 102]⟩ c.toNat w).mono fun _ _ ⟨he, hw⟩ => ⟨by rw [he, ← hex_index c]; simp, hw⟩

theorem size_list {s : ByteArray} {l : List UInt8} (h : s.data.toList = l) : s.size = l.length := by
  rw [← h, Array.length_toList]; rfl
theorem shut2 {s : ByteArray} {a b : UInt8} {r : List UInt8} (h : s.data.toList = a :: b :: r) : ∃ h0 : 0 < s.size, ∃ h1 : 1 < s.size, s[0] = a ∧ s[1] = b ∧ 2 ≤ s.size := by
  have hl : s.size = r.length + 2 := by
    have := congrArg List.length h
    simpa using this
  refine ⟨by omega, by omega, ?_, ?_, by omega⟩
  · have : s.data.toList[0]'(by simp [h]) = a := by simp [h]
    exact this
  · have : s.data.toList[1]'(by simp [h]) = b := by simp [h]
    exact this

set_option maxHeartbeats 400000 in
theorem escaped_bad1 (s : ByteArray) (w : World) (h : s.size < 2) :
    Calls Tryz.prog 181 #[.string s] w fun e w' => e = .returned (.tuple #[.int .u8 0, .int .i64 0]) ∧ Drawn w w' := by
  go_enter Tryz.func181, Tryz.ntmps181
  go_wp2
  go_ret2
  exact ⟨rfl, 0, rfl⟩

set_option maxHeartbeats 400000 in
theorem escaped_bad2 (s : ByteArray) (w : World) (h0 : 0 < s.size) (h1 : 1 < s.size) (h : hexI s[0] < 0 ∨ 0 ≤ hexI s[0] ∧ hexI s[1] < 0) :
    Calls Tryz.prog 181 #[.string s] w fun e w' => e = .returned (.tuple #[.int .u8 0, .int .i64 0]) ∧ Drawn w w' := by
  have h2 : ¬ (s.size : Int) < 2 := by omega
  have h3 : (1 : Int) < s.size := by omega
  have h4 : (0 : Int) < s.size := by omega
  rcases h with h | ⟨h, h'⟩
  · go_enter Tryz.func181, Tryz.ntmps181
    go_wp2_with fail
    go_quiet ((go_at_call 177; exact Calls.quiet_of_same (index_any _ _)))
    go_wp2_with fail
    go_ret2
    exact ⟨rfl, _, rfl⟩
  · have h5 : ¬ hexI s[0] < 0 := by omega
    go_enter Tryz.func181, Tryz.ntmps181
    go_wp2_with fail
    go_quiet ((go_at_call 177; exact Calls.quiet_of_same (index_any _ _)))
    go_wp2_with fail
    go_ret2
    exact ⟨rfl, _, rfl⟩

theorem or_val {h l : Nat} (hh : h < 16) (hl : l < 16) : bits .or .i64 ((h : Int) * 16) l % 256 = ((16 * h + l : Nat) : Int) := by
  have : ∀ i j : Fin 16, bits .or .i64 ((i.val : Int) * 16) j.val % 256 = ((16 * i.val + j.val : Nat) : Int) := by decide +kernel
  exact this ⟨h, hh⟩ ⟨l, hl⟩

set_option maxHeartbeats 400000 in
theorem escaped_plain (s : ByteArray) (w : World) (h0 : 0 < s.size) (h1 : 1 < s.size) (h l : Nat) (eh : hexI s[0] = h) (el : hexI s[1] = l) (hh : h < 16) (hl : l < 16) (hp : plainB (16 * h + l) = true) :
    Calls Tryz.prog 181 #[.string s] w fun e w' => e = .returned (.tuple #[.int .u8 0, .int .i64 0]) ∧ Drawn w w' := by
  have h2 : ¬ (s.size : Int) < 2 := by omega
  have h3 : (1 : Int) < s.size := by omega
  have h4 : (0 : Int) < s.size := by omega
  have HO := Lib.hid (or_val hh hl)
  have HC : Hid (∀ w, Calls Tryz.prog 182 #[.int .u8 ((16 * h + l : Nat) : Int)] w fun e w' => e = .returned (.bool true) ∧ w = w') := Lib.hid fun w => hp ▸ readable_any (16 * h + l) w (by omega)
  clear hp
  go_enter Tryz.func181, Tryz.ntmps181
  go_wp2_with fail
  go_quiet ((go_at_call 177; exact Calls.quiet_of_same (index_any _ _)))
  go_wp2_with fail
  rw [HO.out]
  refine (HC.out _).mono ?_
  rintro e w' ⟨rfl, rfl⟩
  go_wp2_with fail
  go_ret2
  exact ⟨rfl, _, rfl⟩

set_option maxHeartbeats 400000 in
theorem escaped_ok (s : ByteArray) (w : World) (h0 : 0 < s.size) (h1 : 1 < s.size) (h l : Nat) (eh : hexI s[0] = h) (el : hexI s[1] = l) (hh : h < 16) (hl : l < 16) (hp : plainB (16 * h + l) = false) :
    Calls Tryz.prog 181 #[.string s] w fun e w' => e = .returned (.tuple #[.int .u8 (16 * (h : Int) + l), .int .i64 3]) ∧ Drawn w w' := by
  have h2 : ¬ (s.size : Int) < 2 := by omega
  have h3 : (1 : Int) < s.size := by omega
  have h4 : (0 : Int) < s.size := by omega
  have HO := Lib.hid (or_val hh hl)
  have HC : Hid (∀ w, Calls Tryz.prog 182 #[.int .u8 ((16 * h + l : Nat) : Int)] w fun e w' => e = .returned (.bool false) ∧ w = w') := Lib.hid fun w => hp ▸ readable_any (16 * h + l) w (by omega)
  clear hp
  go_enter Tryz.func181, Tryz.ntmps181
  go_wp2_with fail
  go_quiet ((go_at_call 177; exact Calls.quiet_of_same (index_any _ _)))
  go_wp2_with fail
  rw [HO.out]
  refine (HC.out _).mono ?_
  rintro e w' ⟨rfl, rfl⟩
  go_wp2_with fail
  go_ret2
  exact ⟨rfl, _, rfl⟩

/-- What stands behind a backslash, read. -/
theorem escaped_none (s : ByteArray) (w : World) (h : escL s.data.toList = none) :
    Calls Tryz.prog 181 #[.string s] w fun e w' => e = .returned (.tuple #[.int .u8 0, .int .i64 0]) ∧ Drawn w w' := by
  cases hl : s.data.toList with
  | nil => exact escaped_bad1 s w (by rw [size_list hl]; simp)
  | cons a t =>
    cases t with
    | nil => exact escaped_bad1 s w (by rw [size_list hl]; simp)
    | cons b r =>
      obtain ⟨h0, h1, ea, eb, _⟩ := shut2 hl
      rw [hl] at h
      simp only [escL] at h
      cases ha : hexv a with
      | none => exact escaped_bad2 s w h0 h1 (.inl (by rw [ea, hexI_none ha]; omega))
      | some x =>
        cases hb : hexv b with
        | none => exact escaped_bad2 s w h0 h1 (.inr ⟨by rw [ea, hexI_some ha]; omega, by rw [eb, hexI_none hb]; omega⟩)
        | some y =>
          rw [ha, hb] at h
          simp only at h
          refine escaped_plain s w h0 h1 x y (by rw [ea, hexI_some ha]) (by rw [eb, hexI_some hb]) (hexv_lt ha) (hexv_lt hb) ?_
          cases hp : plainB (16 * x + y)
          · rw [hp] at h; simp at h
          · rfl
theorem escaped_some (s : ByteArray) (c : UInt8) (r : List UInt8) (w : World) (h : escL s.data.toList = some (c, r)) :
    Calls Tryz.prog 181 #[.string s] w fun e w' => e = .returned (.tuple #[.int .u8 c.toNat, .int .i64 3]) ∧ Drawn w w' := by
  cases hl : s.data.toList with
  | nil => rw [hl] at h; simp [escL] at h
  | cons a t =>
    cases t with
    | nil => rw [hl] at h; simp [escL] at h
    | cons b r' =>
      obtain ⟨h0, h1, ea, eb, _⟩ := shut2 hl
      rw [hl] at h
      simp only [escL] at h
      cases ha : hexv a with
      | none => rw [ha] at h; simp at h
      | some x =>
        cases hb : hexv b with
        | none => rw [ha, hb] at h; simp at h
        | some y =>
          rw [ha, hb] at h
          simp only at h
          have hx := hexv_lt ha
          have hy := hexv_lt hb
          cases hp : plainB (16 * x + y)
          · rw [hp] at h
            simp only [Bool.false_eq_true, if_false, Option.some.injEq, Prod.mk.injEq] at h
            have hc : (c.toNat : Int) = 16 * x + y := by
              rw [← h.1, UInt8.toNat_ofNat']
              omega
            rw [hc]
            exact escaped_ok s w h0 h1 x y (by rw [ea, hexI_some ha]) (by rw [eb, hexI_some hb]) hx hy hp
          · rw [hp] at h; simp at h

theorem shut1 {s : ByteArray} {a : UInt8} {r : List UInt8} (h : s.data.toList = a :: r) : ∃ h0 : 0 < s.size, s[0] = a ∧ s.size = r.length + 1 := by
  have hl := size_list h
  refine ⟨by rw [hl]; simp, ?_, by rw [hl]; simp⟩
  have : s.data.toList[0]'(by simp [h]) = a := by simp [h]
  exact this
theorem tail_bytes {s : ByteArray} {a : UInt8} {r : List UInt8} (h : s.data.toList = a :: r) : (s.extract 1 s.size).data.toList = r := by
  rw [Lib.extract_to_end, h]; rfl

theorem nonempty_bytes {s : ByteArray} {a : UInt8} {r : List UInt8} (h : s.data.toList = a :: r) : s.toList.isEmpty = false := by rw [Lib.toList_data, h]; rfl
theorem eq_byte {a : UInt8} (n : Nat) (h : a.toNat = n) : ((a.toNat : Int) == (n : Int)) = true := by rw [beq_iff_eq, h]
theorem ne_byte {a : UInt8} (n : Nat) (h : a.toNat ≠ n) : ((a.toNat : Int) == (n : Int)) = false := by rw [beq_eq_false_iff_ne]; omega

set_option maxHeartbeats 400000 in
theorem first_nil (s : ByteArray) (w : World) (h : s.data.toList = []) :
    Calls Tryz.prog 166 #[.string s] w fun e w' => e = .returned (.tuple #[.int .u8 0, .int .i64 0]) ∧ Drawn w w' := by
  have he : s.toList.isEmpty = true := by rw [Lib.toList_data, h]; rfl
  clear h
  go_enter Tryz.func166, Tryz.ntmps166
  go_wp2_with fail
  go_ret2
  exact ⟨rfl, 0, rfl⟩

set_option maxHeartbeats 400000 in
theorem first_esc (s : ByteArray) (w : World) (t : List UInt8) (hs : s.data.toList = 92 :: t) (c n : Int) (HC : Hid (∀ w, Calls Tryz.prog 181 #[.string (s.extract 1 s.size)] w fun e w' => e = .returned (.tuple #[.int .u8 c, .int .i64 n]) ∧ Drawn w w')) :
    Calls Tryz.prog 166 #[.string s] w fun e w' => e = .returned (.tuple #[.int .u8 c, .int .i64 n]) ∧ Drawn w w' := by
  obtain ⟨h0, ea, _⟩ := shut1 hs
  have h4 : (0 : Int) < s.size := by omega
  have he := nonempty_bytes hs
  have h92 : ((s[0].toNat : Int) == 92) = true := by rw [ea]; decide
  clear hs ea
  rename_i hsz
  clear hsz
  go_enter Tryz.func166, Tryz.ntmps166
  go_wp2_with fail
  refine (HC.out _).mono ?_
  rintro e w' ⟨rfl, nq, rfl⟩
  go_wp2_with fail
  go_ret2
  exact ⟨rfl, nq, rfl⟩

theorem prefix_any (s p : ByteArray) (w : World) : Calls Tryz.prog 44 #[.string s, .string p] w fun e w' => e = .returned (.bool (Lib.hasPrefix s.data.toList p.data.toList)) ∧ w = w' :=
  (Tryz.strings_HasPrefix s p w).mono fun _ _ ⟨he, hw⟩ => ⟨he, hw.symm⟩

set_option maxHeartbeats 400000 in
theorem first_quotes (s : ByteArray) (w : World) (r : List UInt8) (hs : s.data.toList = 39 :: 39 :: r) :
    Calls Tryz.prog 166 #[.string s] w fun e w' => e = .returned (.tuple #[.int .u8 39, .int .i64 2]) ∧ Drawn w w' := by
  obtain ⟨h0, ea, _⟩ := shut1 hs
  have h4 : (0 : Int) < s.size := by omega
  have he := nonempty_bytes hs
  have h92 : ((s[0].toNat : Int) == 92) = false := by rw [ea]; decide
  have HP : Hid (∀ w, Calls Tryz.prog 44 #[.string s, .string ⟨#[39, 39]⟩] w fun e w' => e = .returned (.bool true) ∧ w = w') := Lib.hid fun w => by
    have := prefix_any s ⟨#[39, 39]⟩ w
    rwa [show Lib.hasPrefix s.data.toList (⟨#[39, 39]⟩ : ByteArray).data.toList = true by rw [hs]; rfl] at this
  clear hs ea
  rename_i hsz
  clear hsz
  go_enter Tryz.func166, Tryz.ntmps166
  go_wp2_with fail
  refine (HP.out _).mono ?_
  rintro e w' ⟨rfl, rfl⟩
  go_wp2_with fail
  go_ret2
  exact ⟨rfl, 0, rfl⟩

set_option maxHeartbeats 400000 in
theorem first_other (s : ByteArray) (w : World) (a : UInt8) (r : List UInt8) (hs : s.data.toList = a :: r) (ha : a ≠ 92) (hq : ∀ t, r = 39 :: t → a ≠ 39) (v : Bool) (hv : (if a = 39 then false else plainB a.toNat) = v) :
    Calls Tryz.prog 166 #[.string s] w fun e w' => e = .returned (if v then .tuple #[.int .u8 a.toNat, .int .i64 1] else .tuple #[.int .u8 0, .int .i64 0]) ∧ Drawn w w' := by
  obtain ⟨h0, ea, _⟩ := shut1 hs
  have h4 : (0 : Int) < s.size := by omega
  have he := nonempty_bytes hs
  have h92 : ((s[0].toNat : Int) == 92) = false := by rw [ea]; exact ne_byte 92 (fun h => ha (UInt8.toNat_inj.1 h))
  have HP : Hid (∀ w, Calls Tryz.prog 44 #[.string s, .string ⟨#[39, 39]⟩] w fun e w' => e = .returned (.bool false) ∧ w = w') := Lib.hid fun w => by
    have := prefix_any s ⟨#[39, 39]⟩ w
    rwa [show Lib.hasPrefix s.data.toList (⟨#[39, 39]⟩ : ByteArray).data.toList = false by
      rw [hs]
      show ([39, 39] : List UInt8).isPrefixOf (a :: r) = false
      cases r with
      | nil => simp [List.isPrefixOf]
      | cons b t =>
        simp only [List.isPrefixOf, Bool.and_eq_false_iff, beq_eq_false_iff_ne]
        by_cases hb : b = 39
        · left; subst hb; exact fun h => hq t rfl h.symm
        · right; left; exact fun h => hb h.symm] at this
  have HR : Hid (∀ w, Calls Tryz.prog 182 #[.int .u8 s[0].toNat] w fun e w' => e = .returned (.bool (plainB a.toNat)) ∧ w = w') := Lib.hid fun w => by rw [ea]; exact readable_any a.toNat w (byte_lt a)
  have Ea := Lib.hid ea
  clear hs ea hq
  rename_i hsz
  clear hsz
  by_cases h39 : a = 39
  · have hb : ((s[0].toNat : Int) == 39) = true := by rw [Ea.out, h39]; decide
    subst h39
    simp only [if_true] at hv
    subst hv
    go_enter Tryz.func166, Tryz.ntmps166
    go_wp2_with fail
    refine (HP.out _).mono ?_
    rintro e w' ⟨rfl, rfl⟩
    go_wp2_with fail
    go_ret2
    exact ⟨rfl, 0, rfl⟩
  · have hb : ((s[0].toNat : Int) == 39) = false := by rw [Ea.out]; exact ne_byte 39 (fun h => h39 (UInt8.toNat_inj.1 h))
    rw [if_neg h39] at hv
    rw [hv] at HR
    clear hv h39 ha
    cases v
    · go_enter Tryz.func166, Tryz.ntmps166
      go_wp2_with fail
      refine (HP.out _).mono ?_
      rintro e w' ⟨rfl, rfl⟩
      go_wp2_with fail
      refine (HR.out _).mono ?_
      rintro e w' ⟨rfl, rfl⟩
      go_wp2_with fail
      go_ret2
      exact ⟨rfl, 0, rfl⟩
    · go_enter Tryz.func166, Tryz.ntmps166
      go_wp2_with fail
      refine (HP.out _).mono ?_
      rintro e w' ⟨rfl, rfl⟩
      go_wp2_with fail
      refine (HR.out _).mono ?_
      rintro e w' ⟨rfl, rfl⟩
      go_wp2_with fail
      go_ret2
      exact ⟨by rw [← Ea.out]; rfl, 0, rfl⟩

/-- The first byte, read: none. -/
theorem first_none (s : ByteArray) (w : World) (h : firstL s.data.toList = none) :
    Calls Tryz.prog 166 #[.string s] w fun e w' => e = .returned (.tuple #[.int .u8 0, .int .i64 0]) ∧ Drawn w w' := by
  cases hl : s.data.toList with
  | nil => exact first_nil s w hl
  | cons a r =>
    rw [hl] at h
    simp only [firstL] at h
    by_cases h92 : a = 92
    · subst h92
      rw [if_pos rfl] at h
      exact first_esc s w r hl 0 0 (Lib.hid fun w => escaped_none _ w (by rw [tail_bytes hl]; exact h))
    · rw [if_neg h92] at h
      by_cases h39 : a = 39
      · subst h39
        rw [if_pos rfl] at h
        refine first_other s w 39 r hl (by decide) ?_ false rfl
        rintro t rfl
        simp at h
      · rw [if_neg h39] at h
        refine first_other s w a r hl h92 (fun _ _ => h39) false ?_
        rw [if_neg h39]
        cases hp : plainB a.toNat
        · rfl
        · rw [hp] at h; simp at h
/-- .. and some, with how many bytes it takes. -/
theorem first_some (s : ByteArray) (c : UInt8) (r : List UInt8) (w : World) (h : firstL s.data.toList = some (c, r)) :
    ∃ n : Nat, 1 ≤ n ∧ n ≤ 3 ∧ s.size = r.length + n ∧ s.data.toList.drop n = r ∧ Calls Tryz.prog 166 #[.string s] w fun e w' => e = .returned (.tuple #[.int .u8 c.toNat, .int .i64 n]) ∧ Drawn w w' := by
  cases hl : s.data.toList with
  | nil => rw [hl] at h; simp [firstL] at h
  | cons a t =>
    have hsz := size_list hl
    rw [hl] at h
    simp only [firstL] at h
    by_cases h92 : a = 92
    · subst h92
      rw [if_pos rfl] at h
      have hlen := escL_len h
      refine ⟨3, by omega, by omega, by rw [hsz, List.length_cons]; omega, ?_, first_esc s w t hl _ _ (Lib.hid fun w => escaped_some _ c r w (by rw [tail_bytes hl]; exact h))⟩
      match t, h with
      | x :: y :: t', h =>
        simp only [escL] at h
        split at h
        · split at h
          · cases h
          · simp only [Option.some.injEq, Prod.mk.injEq] at h; exact h.2
        · cases h
    · rw [if_neg h92] at h
      by_cases h39 : a = 39
      · subst h39
        rw [if_pos rfl] at h
        split at h
        · split at h
          · rename_i d r' hd
            subst hd
            simp only [Option.some.injEq, Prod.mk.injEq] at h
            obtain ⟨rfl, rfl⟩ := h
            exact ⟨2, by omega, by omega, by rw [hsz]; rfl, rfl, first_quotes s w _ hl⟩
          · cases h
        · cases h
      · rw [if_neg h39] at h
        split at h
        · rename_i hp
          simp only [Option.some.injEq, Prod.mk.injEq] at h
          obtain ⟨rfl, rfl⟩ := h
          exact ⟨1, by omega, by omega, by rw [hsz]; rfl, rfl, first_other s w a _ hl h92 (fun _ _ => h39) true (by rw [if_neg h39]; exact hp)⟩
        · cases h
end Go.Proofs.YtppigamibgefaaaGreatDoor
namespace Go.Proofs.YtppigamibgefaaaGreatDoor
open Go.RowKit

theorem size_of_mem {w : World} {a : Option Addr} {l : List Vl} (h : RowAt w a l) {k : Nat} (hk : k < l.length) : (l.getD k default).s.size ≤ maxLen :=
  h.2.1 _ (by simp [List.getD, hk])

theorem ro_go {l m : List Vl} {k : Nat} (hro : rowsOrd l m = rowsOrd (l.drop k) (m.drop k)) (h : k < l.length) (h' : k < m.length) (hz : (l.getD k default).ord (m.getD k default) = 0) : rowsOrd l m = rowsOrd (l.drop (k + 1)) (m.drop (k + 1)) := by
  rw [hro, ro_step h h', if_neg (by omega)]
theorem ro_stop {l m : List Vl} {k : Nat} {x y : Vl} (hro : rowsOrd l m = rowsOrd (l.drop k) (m.drop k)) (h : k < l.length) (h' : k < m.length) (hx : l.getD k default = x) (hy : m.getD k default = y) (hz : ¬ x.ord y = 0) : rowsOrd l m = x.ord y := by
  rw [hro, ro_step h h', hx, hy, if_pos hz]

theorem good_at {l : List Vl} (h : l.all Vl.good = true) {k : Nat} (hk : k < l.length) : (l.getD k default).good = true := by
  rw [List.all_eq_true] at h
  exact h _ (by simp [List.getD, hk])

theorem ne_ro {l m : List Vl} (h : l ≠ m) : (rowsOrd l m == 0) = false := by
  rw [beq_eq_false_iff_ne]
  exact fun e => h ((ro_zero l m).1 e)
theorem eq_ro {l m : List Vl} (h : l = m) : (rowsOrd l m == 0) = true := by
  rw [beq_iff_eq]
  exact (ro_zero l m).2 h
theorem take_go {l m : List Vl} {k : Nat} (h : k < l.length) (h' : k < m.length) (ht : l.take k = m.take k) (hx : l.getD k default = m.getD k default) : l.take (k + 1) = m.take (k + 1) := by
  rw [List.take_succ_eq_append_getElem h, List.take_succ_eq_append_getElem h', ht]
  simp only [List.getD, List.getElem?_eq_getElem h, List.getElem?_eq_getElem h', Option.getD_some] at hx
  rw [hx]

set_option maxHeartbeats 800000 in
theorem refSame_any (a a' : Option Addr) (cap cap' : Nat) (l m : List Vl) (w : World) (h : RowAt w a l) (h' : RowAt w a' m) :
    Calls Tryz.prog 22 #[.slice a l.length cap, .slice a' m.length cap'] w fun e w' => e = .returned (.bool (rowsOrd l m == 0)) ∧ Below w.heap.size w w' := by
  by_cases hll : l.length = m.length
  · have hm := h.1
    have H := Lib.hid h
    have H' := Lib.hid h'
    clear h h'
    rw [← hll]
    generalize hlen : l.length = len at *
    have Hlen := Lib.hid hlen
    have Hlen' := Lib.hid hll.symm
    clear hlen hll
    go_enter Tryz.func22, Tryz.ntmps22
    go_wp2
    go_loopw [13] (fun i wr => ∃ k : Nat, k ≤ len ∧ i = .int .i64 k ∧ Hid (l.take k = m.take k) ∧ Below w.heap.size w wr) (fun i _ => len - (intOf i).toNat)
    case atStart => exact ⟨0, Nat.zero_le _, rfl, rfl, Below.refl _ _⟩
    case round =>
      obtain ⟨k, hk, rfl, htk, hbl⟩ := hrel
      by_cases hlt : k < len
      · obtain ⟨b, off, rfl, hbs, c0, c1, c2⟩ := (H.out.keep hbl).at (i := k) (by rw [Hlen.out]; exact hlt)
        obtain ⟨b', off', rfl, hbs', d0, d1, d2⟩ := (H'.out.keep hbl).at (i := k) (by rw [Hlen'.out]; exact hlt)
        generalize hx : l.getD k default = x at *
        have Hx := Lib.hid hx
        clear hx
        generalize hy : m.getD k default = y at *
        have Hy := Lib.hid hy
        clear hy
        obtain ⟨xk, xn, xs⟩ := x
        obtain ⟨yk, yn, ys⟩ := y
        simp only at c0 c1 c2 d0 d1 d2
        by_cases hne : (⟨xk, xn, xs⟩ : Vl) = ⟨yk, yn, ys⟩
        · obtain ⟨rfl, rfl, rfl⟩ := Vl.mk.inj hne
          clear hne
          go_wp2_with fail
          go_quiet (fail)
          go_wp2_with fail
          go_roundw
          case rel => exact ⟨k + 1, by omega, by go_num, take_go (by rw [Hlen.out]; exact hlt) (by rw [Hlen'.out]; exact hlt) htk.out (by rw [Hx.out, Hy.out]), below_drewN hbl _⟩
          case measure => simp [intOf]; omega
        · have HNE := Lib.hid hne
          clear hne
          by_cases h1 : xk = yk
          · subst h1
            by_cases h2 : xn = yn
            · subst h2
              have h3 : ¬ xs.toList = ys.toList := fun h => HNE.out (by rw [bytes_ext (a := xs) (b := ys) (by rw [← Lib.toList_data, ← Lib.toList_data, h])])
              go_wp2_with fail
              go_quiet (fail)
              go_wp2_with fail
              go_ret
              exact ⟨ret_bool (ne_ro (fun e => HNE.out (by rw [← Hx.out, ← Hy.out, e]))).symm, below_drewN hbl _⟩
            · go_wp2_with fail
              go_quiet (fail)
              go_wp2_with fail
              go_ret
              exact ⟨ret_bool (ne_ro (fun e => HNE.out (by rw [← Hx.out, ← Hy.out, e]))).symm, below_drewN hbl _⟩
          · go_wp2_with fail
            go_quiet (fail)
            go_wp2_with fail
            go_ret
            exact ⟨ret_bool (ne_ro (fun e => HNE.out (by rw [← Hx.out, ← Hy.out, e]))).symm, below_drewN hbl _⟩
      · obtain rfl : k = len := by omega
        go_wp2_with fail
        go_ret
        exact ⟨ret_bool (eq_ro (by have := htk.out; rwa [List.take_of_length_le (by rw [Hlen.out]; exact Nat.le_refl _), List.take_of_length_le (by rw [Hlen'.out]; exact Nat.le_refl _)] at this)).symm, hbl⟩
  · have hne : (rowsOrd l m == 0) = false := ne_ro (fun e => hll (by rw [e]))
    rw [hne]
    have hd : ((l.length : Int) != (m.length : Int)) = true := by rw [bne_iff_ne]; omega
    clear h h' hne hll
    generalize l.length = len at *
    generalize m.length = len' at *
    go_enter Tryz.func22, Tryz.ntmps22
    go_wp2_with fail
    go_ret
    exact ⟨rfl, Below.refl _ _⟩
end Go.Proofs.YtppigamibgefaaaGreatDoor
namespace Go.Proofs.YtppigamibgefaaaGreatDoor
open Go.RowKit

theorem slice_of_own {w : World} {B : Nat} {e : TypeId} {v : Value} {n : Nat} {xs : List Value} (h : w.ownsRow B e 1 v n xs) : ∃ ao cap, v = .slice ao n cap := by
  rcases h.2 with ⟨hv, h0⟩ | ⟨g, cap, cur, hv, _⟩
  · exact ⟨none, 0, by rw [hv, h0]⟩
  · exact ⟨_, _, hv⟩
theorem extract_to (s : ByteArray) (n : Nat) : (s.extract n s.size).data.toList = s.data.toList.drop n := Lib.extract_to_end s n
theorem take61 (full : List UInt8) (c : UInt8) (h : full.length ≤ 60) : Lib.byteCells ((full ++ [c]).take 61) = Lib.byteCells (full.take 61) ++ [.int .u8 c.toNat] := by
  rw [List.take_of_length_le (by simp; omega), List.take_of_length_le (by omega), Lib.byteCells_append]
  rfl
theorem take61_more (full : List UInt8) (c : UInt8) (h : 60 < full.length) : (full ++ [c]).take 61 = full.take 61 := by
  rw [List.take_append_of_le_length (by omega)]

/-- string(b) of a slice of the call's own. -/
theorem conv_own {w : World} {B : Nat} {v : Value} {n : Nat} {l : List UInt8} (h : w.ownsRow B 5 1 v n (Lib.byteCells l)) : (convert 103 9 v).run Tryz.prog w = .ok (.string ⟨l.toArray⟩) w := by
  have hlen : l.length = n := by have := h.1; rw [Lib.byteCells_length] at this; omega
  rcases h.2 with ⟨rfl, h0⟩ | ⟨g, cap, cur, rfl, _⟩
  · have : l = [] := List.eq_nil_of_length_eq_zero (by omega)
    subst this
    rw [run_convert_bytes_string w _ _ 5 _ _ _ Tryz.underlying103 Tryz.underlying5 Tryz.underlying9]
    rfl
  · subst hlen
    refine run_convert_bytes_back w _ _ 5 _ cap l Tryz.underlying103 Tryz.underlying5 Tryz.underlying9 (fun j hj => ?_)
    have := h.cells (g := g) rfl j (.int .u8 l[j].toNat) (by simp [Lib.byteCells, hj])
    simpa [Addr.add] using this

/-- What the reading of a text comes to. -/
def textRes (o : Option (List UInt8)) : Value := match o with
  | none => .tuple #[vz, .int .i64 2]
  | some t => if t.length ≤ 60 then .tuple #[.agg #[.int .i64 3, .int .i64 0, .string ⟨t.toArray⟩], .int .i64 0] else .tuple #[vz, .int .i64 1]

set_option maxRecDepth 100000 in
set_option maxHeartbeats 800000 in
theorem readText_any (s : ByteArray) (w : World) (hs : s.size ≤ 1510) :
    Calls Tryz.prog 146 #[.string s] w fun e w' => e = .returned (textRes (readB s.data.toList)) ∧ Below w.heap.size w w' := by
  generalize hres : textRes (readB s.data.toList) = res
  have Hres := Lib.hid hres
  clear hres
  obtain ⟨i0, hi, hz0, hz1, hz2⟩ := info_parts byte_info
  go_enter Tryz.func146, Tryz.ntmps146
  go_wp2_with fail
  go_loopw [0, 4] (fun t v wr => ∃ (sx : ByteArray) (full : List UInt8) (n : Nat), t = .string sx ∧ sx.size + full.length ≤ 1510 ∧ Hid (n = (full.take 61).length) ∧ Hid (readB s.data.toList = (readB sx.data.toList).map (full ++ ·)) ∧ wr.ownsRow w.heap.size 5 1 v n (Lib.byteCells (full.take 61)) ∧ Ran w 1 wr ∧ wr.heap[w.heap.size]? = some (.cells #[.int .i64 0, .int .i64 0, .string ⟨#[]⟩] 27 (0, 0))) (fun t _ _ => match t with | .string x => x.size | _ => 0)
  case atStart => exact ⟨s, [], 0, rfl, by simpa using hs, rfl, by show _ = _; simp, ⟨rfl, .inl ⟨rfl, rfl⟩⟩, ⟨(Below.refl _ _).alloc (Nat.le_refl _) _, by simp⟩, heap_new _ _⟩
  case round =>
    obtain ⟨sx, full, n, rfl, hsx, hn, hrd, hown, hran, hblk⟩ := hrel
    obtain ⟨ao, cap, rfl⟩ := slice_of_own hown
    have hbl : Below w.heap.size w wr := hran.1
    have hsz : w.heap.size + 1 ≤ wr.heap.size := hran.2
    have hn61 : n ≤ 61 := by rw [hn.out]; exact List.length_take_le _ _
    have c0 : wr.cell? ⟨w.heap.size, 0, none⟩ = some (.int .i64 0) := by rw [Lib.cell_of_heap hblk]; rfl
    have c1 : wr.cell? ⟨w.heap.size, 1, none⟩ = some (.int .i64 0) := by rw [Lib.cell_of_heap hblk]; rfl
    have c2 : wr.cell? ⟨w.heap.size, 2, none⟩ = some (.string ⟨#[]⟩) := by rw [Lib.cell_of_heap hblk]; rfl
    have f0 := Lib.frozen_of_heap hblk 0
    have f1 := Lib.frozen_of_heap hblk 1
    have f2 := Lib.frozen_of_heap hblk 2
    by_cases h39 : sx.data.toList = [39]
    · have ht : (sx.toList == [39]) = true := by rw [Lib.toList_data, h39]; rfl
      have hr : readB s.data.toList = some full := by rw [hrd.out, h39, readB_end]; simp
      have Hr := Lib.hid hr
      clear hr h39
      by_cases hlen : full.length ≤ 60
      · have hn60 : ¬ (60 : Int) < n := by rw [hn.out, List.length_take]; omega
        have hown2 := hown
        rw [List.take_of_length_le (by omega)] at hown2
        have Hcv := Lib.hid (conv_own hown2)
        have Hlen := Lib.hid hlen
        clear hlen hown2
        go_wp2_with fail
        rw [Hcv.out]
        simp only [Result.andThen]
        rw [Oper.upon_value]
        go_wp2_with fail
        exact bodyPost_ret (v := .tuple #[.agg #[.int .i64 3, .int .i64 0, .string ⟨full.toArray⟩], .int .i64 0]) (by simp [results, Tryz.results146, go_sem, c0, c1, c2]) rfl ⟨by rw [← Hres.out, Hr.out, textRes, if_pos Hlen.out], below_store3 hbl (Nat.le_refl _) _ _ _⟩
      · have hn60 : (60 : Int) < n := by rw [hn.out, List.length_take]; omega
        have Hlen := Lib.hid hlen
        clear hlen
        go_wp2_with fail
        exact bodyPost_ret (v := .tuple #[vz, .int .i64 1]) (by simp [results, Tryz.results146, go_sem, c0, c1, c2]) rfl ⟨by rw [← Hres.out, Hr.out, textRes, if_neg Hlen.out], below_store3 hbl (Nat.le_refl _) _ _ _⟩
    · have ht : (sx.toList == [39]) = false := by rw [Lib.toList_data, beq_eq_false_iff_ne]; exact h39
      cases hf : firstL sx.data.toList with
      | none =>
        have hr : readB s.data.toList = none := by rw [hrd.out, readB_none h39 hf]; rfl
        have Hr := Lib.hid hr
        have HF := Lib.hid (first_none sx wr hf)
        clear hr h39 hf
        go_wp2_with fail
        refine HF.out.mono ?_
        rintro e w1 ⟨rfl, nq, rfl⟩
        go_wp2_with fail
        exact bodyPost_ret (v := .tuple #[vz, .int .i64 2]) (by simp [results, Tryz.results146, go_sem, c0, c1, c2]) rfl ⟨by rw [← Hres.out, Hr.out, textRes], below_store3 (below_drewN hbl _) (Nat.le_refl _) _ _ _⟩
      | some x =>
        obtain ⟨c, r⟩ := x
        obtain ⟨q, q1, q3, hq, hdrop, hF⟩ := first_some sx c r wr hf
        have HF := Lib.hid hF
        have Hrd2 : Hid (readB s.data.toList = (readB r).map ((full ++ [c]) ++ ·)) := Lib.hid (by
          rw [hrd.out, readB_some h39 hf, Option.map_map]
          congr 1
          funext z
          simp)
        have Hex : Hid ((sx.extract q sx.size).data.toList = r) := Lib.hid (by rw [extract_to, hdrop])
        have Hsz : Hid ((sx.extract q sx.size).size = r.length) := Lib.hid (size_list Hex.out)
        have hq0 : ((q : Int) == 0) = false := by rw [beq_eq_false_iff_ne]; omega
        have hqs : q ≤ sx.size := by omega
        have Hq := Lib.hid hq
        clear hF h39 hf hdrop hq
        by_cases hlen : full.length ≤ 60
        · have hn60 : (n : Int) ≤ 60 := by rw [hn.out, List.length_take]; omega
          have hn' : Hid (n + 1 = ((full ++ [c]).take 61).length) := Lib.hid (by rw [hn.out, List.length_take, List.length_take, List.length_append]; simp; omega)
          have htk : Hid (Lib.byteCells ((full ++ [c]).take 61) = Lib.byteCells (full.take 61) ++ [.int .u8 c.toNat]) := Lib.hid (take61 full c hlen)
          have hne := Lib.ownBlock_ne hown hblk (by decide)
          clear hlen
          go_wp2_with fail
          refine HF.out.mono ?_
          rintro e w1 ⟨rfl, nq, rfl⟩
          have hownd : (wr.drewN nq).ownsRow w.heap.size 5 1 (.slice ao n cap) n (Lib.byteCells (full.take 61)) := hown
          go_wp2_with (at_builtin; refine wpList_append_own _ rfl _ _ 103 rfl w.heap.size 5 i0 (.int .u8 0) 1 1 Tryz.underlying103 hi hz0 hz1 hz2 rfl (by decide) _ _ _ rfl (hownd.alloc _) ⟨wr.heap.size, 0, none⟩ 1 1 [.int .u8 c.toNat] rfl rfl ?c1 ?c2 ?c3 ?c4 ?c5 ?_)
          case c1 =>
            intro j u hj
            match j, hj with
            | 0, hj => simp at hj; subst hj; simp [Addr.add]; exact Lib.cell_of_heap (heap_new (wr.drewN nq) _) 0
          case c2 => intro u hu; simp at hu; subst hu; rfl
          case c3 => unfold maxLen; omega
          case c4 => omega
          case c5 => simp; omega
          intro v' w2 hown' hgrow _
          have hblk2 : w2.heap[w.heap.size]? = some (.cells #[.int .i64 0, .int .i64 0, .string ⟨#[]⟩] 27 (0, 0)) := by
            rw [hgrow.block w.heap.size (by simp; omega) (fun e => hne e.symm), Lib.alloc_old _ _ _ (by simp; omega)]
            exact hblk
          have hb2 : Below w.heap.size w w2 := ((below_drewN hbl nq).alloc (by simp; omega) _).grown hgrow (by simp; omega) (fun k hk => (hown.lt k hk).1)
          have hs2 : w.heap.size + 1 ≤ w2.heap.size := by have := hgrow.size; simp at this; omega
          go_wp2_with fail
          refine ⟨⟨_, full ++ [c], n + 1, rfl, ?_, hn', ?_, by rw [htk.out]; exact hown', ⟨hb2, hs2⟩, hblk2⟩, ?_⟩
          · have hq := Hq.out; rw [Hsz.out, List.length_append]; simp; omega
          · exact Lib.hid (by rw [Hex.out]; exact Hrd2.out)
          · show (sx.extract q sx.size).size < sx.size
            have hq := Hq.out
            rw [Hsz.out]; omega
        · have hn60 : ¬ (n : Int) ≤ 60 := by rw [hn.out, List.length_take]; omega
          have htk : Hid ((full ++ [c]).take 61 = full.take 61) := Lib.hid (take61_more full c (by omega))
          clear hlen
          go_wp2_with fail
          refine HF.out.mono ?_
          rintro e w1 ⟨rfl, nq, rfl⟩
          go_wp2_with fail
          refine ⟨⟨_, full ++ [c], n, rfl, ?_, by show n = _; rw [htk.out]; exact hn.out, ?_, by rw [htk.out]; exact hown, ⟨below_drewN hbl _, hsz⟩, hblk⟩, ?_⟩
          · have hq := Hq.out; rw [Hsz.out, List.length_append]; simp; omega
          · exact Lib.hid (by rw [Hex.out]; exact Hrd2.out)
          · show (sx.extract q sx.size).size < sx.size
            have hq := Hq.out
            rw [Hsz.out]; omega
end Go.Proofs.YtppigamibgefaaaGreatDoor
