/- What a run leaves in memory: blocks that are new, cells that stay; rows of values in memory; the contract of the document's GoodRow and Int. Contracts of how the program reads a quoted text byte by byte. Contracts of what compares rows: the program's, by the library's slices.CompareFunc and slices.Equal, and the document's. -/
import Derived.Test.YtjaclmoobfeikaaGreatDoorZl07
import Derived.Test.YtjaclmoobfeikaaGreatDoorZl06
import Derived.Deep.DeepCutAuto
import Derived.Lib.Hide
import Derived.Lib.IndexBytes
import Derived.BigQuiet
import Derived.Deep.RegionHeld3
namespace Go.Proofs.YtjaclmoobfeikaaGreatDoor
open Go.RowKit

/-- A value by its three cells. -/
structure Vl where
  k : Int
  n : Int
  s : ByteArray
instance : Inhabited Vl := ⟨⟨0, 0, ⟨#[]⟩⟩⟩
def Vl.good (x : Vl) : Bool := goodB x.k x.n x.s
def Vl.ord (x y : Vl) : Int := ordC x.k x.n x.s y.k y.n y.s

/-- The slice at a of len values reads as l in w: nil and empty, or a row of cells that was there. -/
def RowAt (w : World) (a : Option Addr) (l : List Vl) : Prop :=
  l.length ≤ 9223372036854775807 ∧ (∀ x ∈ l, x.s.size ≤ maxLen) ∧ (l = [] ∨ ∃ b off, a = some ⟨b, off, none⟩ ∧ b < w.heap.size ∧ ∀ i, i < l.length → w.cell? ⟨b, off + i * 3, none⟩ = some (.int .i64 (l.getD i default).k) ∧ w.cell? ⟨b, off + i * 3 + 1, none⟩ = some (.int .i64 (l.getD i default).n) ∧ w.cell? ⟨b, off + i * 3 + 2, none⟩ = some (.string (l.getD i default).s))

theorem RowAt.keep {w w' : World} {a : Option Addr} {l : List Vl} (h : RowAt w a l) (hb : Below w.heap.size w w') : RowAt w' a l := by
  obtain ⟨h1, h2, h3⟩ := h
  refine ⟨h1, h2, ?_⟩
  rcases h3 with h3 | ⟨b, off, e, hlt, hc⟩
  · exact .inl h3
  · have := hb.size
    exact .inr ⟨b, off, e, by omega, fun i hi => ⟨(hb.cell (p := ⟨b, _, none⟩) hlt).trans (hc i hi).1, (hb.cell (p := ⟨b, _, none⟩) hlt).trans (hc i hi).2.1, (hb.cell (p := ⟨b, _, none⟩) hlt).trans (hc i hi).2.2⟩⟩
theorem RowAt.at {w : World} {a : Option Addr} {l : List Vl} (h : RowAt w a l) {i : Nat} (hi : i < l.length) : ∃ b off, a = some ⟨b, off, none⟩ ∧ b < w.heap.size ∧ w.cell? ⟨b, off + i * 3, none⟩ = some (.int .i64 (l.getD i default).k) ∧ w.cell? ⟨b, off + i * 3 + 1, none⟩ = some (.int .i64 (l.getD i default).n) ∧ w.cell? ⟨b, off + i * 3 + 2, none⟩ = some (.string (l.getD i default).s) := by
  rcases h.2.2 with h3 | ⟨b, off, e, hlt, hc⟩
  · rw [h3] at hi; simp at hi
  · exact ⟨b, off, e, hlt, hc i hi⟩

/-- The order of two rows. -/
def rowsOrd : List Vl → List Vl → Int
  | [], [] => 0
  | [], _ :: _ => -1
  | _ :: _, [] => 1
  | x :: l, y :: m => if x.ord y ≠ 0 then x.ord y else rowsOrd l m
theorem Vl.ord_zero {x y : Vl} : x.ord y = 0 ↔ x = y := by
  unfold Vl.ord
  rw [ordC_zero]
  cases x; cases y; simp
theorem ro_zero : ∀ l m : List Vl, rowsOrd l m = 0 ↔ l = m
  | [], [] => by simp [rowsOrd]
  | [], _ :: _ => by simp [rowsOrd]
  | _ :: _, [] => by simp [rowsOrd]
  | x :: l, y :: m => by
    have ih := ro_zero l m
    simp only [rowsOrd, List.cons.injEq]
    by_cases hz : x.ord y = 0
    · rw [if_neg (by omega), ih, Vl.ord_zero.1 hz]; simp
    · rw [if_pos hz]
      exact ⟨fun h => absurd h hz, fun h => absurd (Vl.ord_zero.2 h.1) hz⟩
end Go.Proofs.YtjaclmoobfeikaaGreatDoor
namespace Go.Proofs.YtjaclmoobfeikaaGreatDoor
open Go.RowKit

theorem index_any (c : UInt8) (w : World) :
    Calls Tryz.prog 143 #[.string ⟨#[48, 49, 50, 51, 52, 53, 54, 55, 56, 57, 97, 98, 99, 100, 101, 102]⟩, .int .u8 c.toNat] w fun e w' => e = .returned (.int .i64 (hexI c)) ∧ w' = w :=
  (Tryz.strings_IndexByte ⟨#[48, 49, 50, 51, 52, 53, 54, 55, 56, 57, 97, 98, 99, 100, 101, 102]⟩ c.toNat w).mono fun _ _ ⟨he, hw⟩ => ⟨by rw [he, ← hex_index c]; simp, hw⟩

theorem size_list {s : ByteArray} {l : List UInt8} (h : s.data.toList = l) : s.size = l.length := by
  rw [← h, Array.length_toList]; rfl
theorem shut2 {s : ByteArray} {a b : UInt8} {r : List UInt8} (h : s.data.toList = a :: b :: r) : ∃ h0 : 0 < s.size, ∃ h1 : 1 < s.size, s[0] = a ∧ s[1] = b ∧ 2 ≤ s.size := by
  have hl : s.size = r.length + 2 := by
    have := congrArg List.length h
    simpa using this
  refine ⟨by omega, by omega, ?_, ?_, by omega⟩
  · have : s.data.toList[0]'(by simp [h]) = a := by simp [h]
    exact this
  · have : s.data.toList[1]'(by simp [h]) = b := by simp [h]
    exact this

set_option maxHeartbeats 400000 in
theorem escaped_bad1 (s : ByteArray) (w : World) (h : s.size < 2) :
    Calls Tryz.prog 147 #[.string s] w fun e w' => e = .returned (.tuple #[.int .u8 0, .int .i64 0]) ∧ Drawn w w' := by
  go_enter Tryz.func147, Tryz.ntmps147
  go_wp2
  go_ret2
  exact ⟨rfl, 0, rfl⟩

set_option maxHeartbeats 400000 in
theorem escaped_bad2 (s : ByteArray) (w : World) (h0 : 0 < s.size) (h1 : 1 < s.size) (h : hexI s[0] < 0 ∨ 0 ≤ hexI s[0] ∧ hexI s[1] < 0) :
    Calls Tryz.prog 147 #[.string s] w fun e w' => e = .returned (.tuple #[.int .u8 0, .int .i64 0]) ∧ Drawn w w' := by
  have h2 : ¬ (s.size : Int) < 2 := by omega
  have h3 : (1 : Int) < s.size := by omega
  have h4 : (0 : Int) < s.size := by omega
  rcases h with h | ⟨h, h'⟩
  · go_enter Tryz.func147, Tryz.ntmps147
    go_wp2_with fail
    go_quiet ((go_at_call 143; exact Calls.quiet_of_same (index_any _ _)))
    go_wp2_with fail
    go_ret2
    exact ⟨rfl, _, rfl⟩
  · have h5 : ¬ hexI s[0] < 0 := by omega
    go_enter Tryz.func147, Tryz.ntmps147
    go_wp2_with fail
    go_quiet ((go_at_call 143; exact Calls.quiet_of_same (index_any _ _)))
    go_wp2_with fail
    go_ret2
    exact ⟨rfl, _, rfl⟩

theorem or_val {h l : Nat} (hh : h < 16) (hl : l < 16) : bits .or .i64 ((h : Int) * 16) l % 256 = ((16 * h + l : Nat) : Int) := by
  have : ∀ i j : Fin 16, bits .or .i64 ((i.val : Int) * 16) j.val % 256 = ((16 * i.val + j.val : Nat) : Int) := by decide +kernel
  exact this ⟨h, hh⟩ ⟨l, hl⟩

set_option maxHeartbeats 400000 in
theorem escaped_plain (s : ByteArray) (w : World) (h0 : 0 < s.size) (h1 : 1 < s.size) (h l : Nat) (eh : hexI s[0] = h) (el : hexI s[1] = l) (hh : h < 16) (hl : l < 16) (hp : plainB (16 * h + l) = true) :
    Calls Tryz.prog 147 #[.string s] w fun e w' => e = .returned (.tuple #[.int .u8 0, .int .i64 0]) ∧ Drawn w w' := by
  have h2 : ¬ (s.size : Int) < 2 := by omega
  have h3 : (1 : Int) < s.size := by omega
  have h4 : (0 : Int) < s.size := by omega
  have HO := Lib.hid (or_val hh hl)
  have HC : Hid (∀ w, Calls Tryz.prog 148 #[.int .u8 ((16 * h + l : Nat) : Int)] w fun e w' => e = .returned (.bool true) ∧ w = w') := Lib.hid fun w => hp ▸ readable_any (16 * h + l) w (by omega)
  clear hp
  go_enter Tryz.func147, Tryz.ntmps147
  go_wp2_with fail
  go_quiet ((go_at_call 143; exact Calls.quiet_of_same (index_any _ _)))
  go_wp2_with fail
  rw [HO.out]
  refine (HC.out _).mono ?_
  rintro e w' ⟨rfl, rfl⟩
  go_wp2_with fail
  go_ret2
  exact ⟨rfl, _, rfl⟩

set_option maxHeartbeats 400000 in
theorem escaped_ok (s : ByteArray) (w : World) (h0 : 0 < s.size) (h1 : 1 < s.size) (h l : Nat) (eh : hexI s[0] = h) (el : hexI s[1] = l) (hh : h < 16) (hl : l < 16) (hp : plainB (16 * h + l) = false) :
    Calls Tryz.prog 147 #[.string s] w fun e w' => e = .returned (.tuple #[.int .u8 (16 * (h : Int) + l), .int .i64 3]) ∧ Drawn w w' := by
  have h2 : ¬ (s.size : Int) < 2 := by omega
  have h3 : (1 : Int) < s.size := by omega
  have h4 : (0 : Int) < s.size := by omega
  have HO := Lib.hid (or_val hh hl)
  have HC : Hid (∀ w, Calls Tryz.prog 148 #[.int .u8 ((16 * h + l : Nat) : Int)] w fun e w' => e = .returned (.bool false) ∧ w = w') := Lib.hid fun w => hp ▸ readable_any (16 * h + l) w (by omega)
  clear hp
  go_enter Tryz.func147, Tryz.ntmps147
  go_wp2_with fail
  go_quiet ((go_at_call 143; exact Calls.quiet_of_same (index_any _ _)))
  go_wp2_with fail
  rw [HO.out]
  refine (HC.out _).mono ?_
  rintro e w' ⟨rfl, rfl⟩
  go_wp2_with fail
  go_ret2
  exact ⟨rfl, _, rfl⟩

/-- What stands behind a backslash, read. -/
theorem escaped_none (s : ByteArray) (w : World) (h : escL s.data.toList = none) :
    Calls Tryz.prog 147 #[.string s] w fun e w' => e = .returned (.tuple #[.int .u8 0, .int .i64 0]) ∧ Drawn w w' := by
  cases hl : s.data.toList with
  | nil => exact escaped_bad1 s w (by rw [size_list hl]; simp)
  | cons a t =>
    cases t with
    | nil => exact escaped_bad1 s w (by rw [size_list hl]; simp)
    | cons b r =>
      obtain ⟨h0, h1, ea, eb, _⟩ := shut2 hl
      rw [hl] at h
      simp only [escL] at h
      cases ha : hexv a with
      | none => exact escaped_bad2 s w h0 h1 (.inl (by rw [ea, hexI_none ha]; omega))
      | some x =>
        cases hb : hexv b with
        | none => exact escaped_bad2 s w h0 h1 (.inr ⟨by rw [ea, hexI_some ha]; omega, by rw [eb, hexI_none hb]; omega⟩)
        | some y =>
          rw [ha, hb] at h
          simp only at h
          refine escaped_plain s w h0 h1 x y (by rw [ea, hexI_some ha]) (by rw [eb, hexI_some hb]) (hexv_lt ha) (hexv_lt hb) ?_
          cases hp : plainB (16 * x + y)
          · rw [hp] at h; simp at h
          · rfl
theorem escaped_some (s : ByteArray) (c : UInt8) (r : List UInt8) (w : World) (h : escL s.data.toList = some (c, r)) :
    Calls Tryz.prog 147 #[.string s] w fun e w' => e = .returned (.tuple #[.int .u8 c.toNat, .int .i64 3]) ∧ Drawn w w' := by
  cases hl : s.data.toList with
  | nil => rw [hl] at h; simp [escL] at h
  | cons a t =>
    cases t with
    | nil => rw [hl] at h; simp [escL] at h
    | cons b r' =>
      obtain ⟨h0, h1, ea, eb, _⟩ := shut2 hl
      rw [hl] at h
      simp only [escL] at h
      cases ha : hexv a with
      | none => rw [ha] at h; simp at h
      | some x =>
        cases hb : hexv b with
        | none => rw [ha, hb] at h; simp at h
        | some y =>
          rw [ha, hb] at h
          simp only at h
          have hx := hexv_lt ha
          have hy := hexv_lt hb
          cases hp : plainB (16 * x + y)
          · rw [hp] at h
            simp only [Bool.false_eq_true, if_false, Option.some.injEq, Prod.mk.injEq] at h
            have hc : (c.toNat : Int) = 16 * x + y := by
              rw [← h.1, UInt8.toNat_ofNat']
              omega
            rw [hc]
            exact escaped_ok s w h0 h1 x y (by rw [ea, hexI_some ha]) (by rw [eb, hexI_some hb]) hx hy hp
          · rw [hp] at h; simp at h

theorem shut1 {s : ByteArray} {a : UInt8} {r : List UInt8} (h : s.data.toList = a :: r) : ∃ h0 : 0 < s.size, s[0] = a ∧ s.size = r.length + 1 := by
  have hl := size_list h
  refine ⟨by rw [hl]; simp, ?_, by rw [hl]; simp⟩
  have : s.data.toList[0]'(by simp [h]) = a := by simp [h]
  exact this
theorem tail_bytes {s : ByteArray} {a : UInt8} {r : List UInt8} (h : s.data.toList = a :: r) : (s.extract 1 s.size).data.toList = r := by
  rw [Lib.extract_to_end, h]; rfl

theorem nonempty_bytes {s : ByteArray} {a : UInt8} {r : List UInt8} (h : s.data.toList = a :: r) : s.toList.isEmpty = false := by rw [Lib.toList_data, h]; rfl
theorem ne_byte {a : UInt8} (n : Nat) (h : a.toNat ≠ n) : ((a.toNat : Int) == (n : Int)) = false := by rw [beq_eq_false_iff_ne]; omega

set_option maxHeartbeats 400000 in
theorem first_nil (s : ByteArray) (w : World) (h : s.data.toList = []) :
    Calls Tryz.prog 135 #[.string s] w fun e w' => e = .returned (.tuple #[.int .u8 0, .int .i64 0]) ∧ Drawn w w' := by
  have he : s.toList.isEmpty = true := by rw [Lib.toList_data, h]; rfl
  clear h
  go_enter Tryz.func135, Tryz.ntmps135
  go_wp2_with fail
  go_ret2
  exact ⟨rfl, 0, rfl⟩

set_option maxHeartbeats 400000 in
theorem first_esc (s : ByteArray) (w : World) (t : List UInt8) (hs : s.data.toList = 92 :: t) (c n : Int) (HC : Hid (∀ w, Calls Tryz.prog 147 #[.string (s.extract 1 s.size)] w fun e w' => e = .returned (.tuple #[.int .u8 c, .int .i64 n]) ∧ Drawn w w')) :
    Calls Tryz.prog 135 #[.string s] w fun e w' => e = .returned (.tuple #[.int .u8 c, .int .i64 n]) ∧ Drawn w w' := by
  obtain ⟨h0, ea, _⟩ := shut1 hs
  have h4 : (0 : Int) < s.size := by omega
  have he := nonempty_bytes hs
  have h92 : ((s[0].toNat : Int) == 92) = true := by rw [ea]; decide
  clear hs ea
  rename_i hsz
  clear hsz
  go_enter Tryz.func135, Tryz.ntmps135
  go_wp2_with fail
  refine (HC.out _).mono ?_
  rintro e w' ⟨rfl, nq, rfl⟩
  go_wp2_with fail
  go_ret2
  exact ⟨rfl, nq, rfl⟩

theorem prefix_any (s p : ByteArray) (w : World) : Calls Tryz.prog 118 #[.string s, .string p] w fun e w' => e = .returned (.bool (Lib.hasPrefix s.data.toList p.data.toList)) ∧ w = w' :=
  (Tryz.strings_HasPrefix s p w).mono fun _ _ ⟨he, hw⟩ => ⟨he, hw.symm⟩

set_option maxHeartbeats 400000 in
theorem first_quotes (s : ByteArray) (w : World) (r : List UInt8) (hs : s.data.toList = 39 :: 39 :: r) :
    Calls Tryz.prog 135 #[.string s] w fun e w' => e = .returned (.tuple #[.int .u8 39, .int .i64 2]) ∧ Drawn w w' := by
  obtain ⟨h0, ea, _⟩ := shut1 hs
  have h4 : (0 : Int) < s.size := by omega
  have he := nonempty_bytes hs
  have h92 : ((s[0].toNat : Int) == 92) = false := by rw [ea]; decide
  have HP : Hid (∀ w, Calls Tryz.prog 118 #[.string s, .string ⟨#[39, 39]⟩] w fun e w' => e = .returned (.bool true) ∧ w = w') := Lib.hid fun w => by
    have := prefix_any s ⟨#[39, 39]⟩ w
    rwa [show Lib.hasPrefix s.data.toList (⟨#[39, 39]⟩ : ByteArray).data.toList = true by rw [hs]; rfl] at this
  clear hs ea
  rename_i hsz
  clear hsz
  go_enter Tryz.func135, Tryz.ntmps135
  go_wp2_with fail
  refine (HP.out _).mono ?_
  rintro e w' ⟨rfl, rfl⟩
  go_wp2_with fail
  go_ret2
  exact ⟨rfl, 0, rfl⟩

set_option maxHeartbeats 400000 in
theorem first_other (s : ByteArray) (w : World) (a : UInt8) (r : List UInt8) (hs : s.data.toList = a :: r) (ha : a ≠ 92) (hq : ∀ t, r = 39 :: t → a ≠ 39) (v : Bool) (hv : (if a = 39 then false else plainB a.toNat) = v) :
    Calls Tryz.prog 135 #[.string s] w fun e w' => e = .returned (if v then .tuple #[.int .u8 a.toNat, .int .i64 1] else .tuple #[.int .u8 0, .int .i64 0]) ∧ Drawn w w' := by
  obtain ⟨h0, ea, _⟩ := shut1 hs
  have h4 : (0 : Int) < s.size := by omega
  have he := nonempty_bytes hs
  have h92 : ((s[0].toNat : Int) == 92) = false := by rw [ea]; exact ne_byte 92 (fun h => ha (UInt8.toNat_inj.1 h))
  have HP : Hid (∀ w, Calls Tryz.prog 118 #[.string s, .string ⟨#[39, 39]⟩] w fun e w' => e = .returned (.bool false) ∧ w = w') := Lib.hid fun w => by
    have := prefix_any s ⟨#[39, 39]⟩ w
    rwa [show Lib.hasPrefix s.data.toList (⟨#[39, 39]⟩ : ByteArray).data.toList = false by
      rw [hs]
      show ([39, 39] : List UInt8).isPrefixOf (a :: r) = false
      cases r with
      | nil => simp [List.isPrefixOf]
      | cons b t =>
        simp only [List.isPrefixOf, Bool.and_eq_false_iff, beq_eq_false_iff_ne]
        by_cases hb : b = 39
        · left; subst hb; exact fun h => hq t rfl h.symm
        · right; left; exact fun h => hb h.symm] at this
  have HR : Hid (∀ w, Calls Tryz.prog 148 #[.int .u8 s[0].toNat] w fun e w' => e = .returned (.bool (plainB a.toNat)) ∧ w = w') := Lib.hid fun w => by rw [ea]; exact readable_any a.toNat w (byte_lt a)
  have Ea := Lib.hid ea
  clear hs ea hq
  rename_i hsz
  clear hsz
  by_cases h39 : a = 39
  · have hb : ((s[0].toNat : Int) == 39) = true := by rw [Ea.out, h39]; decide
    subst h39
    simp only [if_true] at hv
    subst hv
    go_enter Tryz.func135, Tryz.ntmps135
    go_wp2_with fail
    refine (HP.out _).mono ?_
    rintro e w' ⟨rfl, rfl⟩
    go_wp2_with fail
    go_ret2
    exact ⟨rfl, 0, rfl⟩
  · have hb : ((s[0].toNat : Int) == 39) = false := by rw [Ea.out]; exact ne_byte 39 (fun h => h39 (UInt8.toNat_inj.1 h))
    rw [if_neg h39] at hv
    rw [hv] at HR
    clear hv h39 ha
    cases v
    · go_enter Tryz.func135, Tryz.ntmps135
      go_wp2_with fail
      refine (HP.out _).mono ?_
      rintro e w' ⟨rfl, rfl⟩
      go_wp2_with fail
      refine (HR.out _).mono ?_
      rintro e w' ⟨rfl, rfl⟩
      go_wp2_with fail
      go_ret2
      exact ⟨rfl, 0, rfl⟩
    · go_enter Tryz.func135, Tryz.ntmps135
      go_wp2_with fail
      refine (HP.out _).mono ?_
      rintro e w' ⟨rfl, rfl⟩
      go_wp2_with fail
      refine (HR.out _).mono ?_
      rintro e w' ⟨rfl, rfl⟩
      go_wp2_with fail
      go_ret2
      exact ⟨by rw [← Ea.out]; rfl, 0, rfl⟩

/-- The first byte, read: none. -/
theorem first_none (s : ByteArray) (w : World) (h : firstL s.data.toList = none) :
    Calls Tryz.prog 135 #[.string s] w fun e w' => e = .returned (.tuple #[.int .u8 0, .int .i64 0]) ∧ Drawn w w' := by
  cases hl : s.data.toList with
  | nil => exact first_nil s w hl
  | cons a r =>
    rw [hl] at h
    simp only [firstL] at h
    by_cases h92 : a = 92
    · subst h92
      rw [if_pos rfl] at h
      exact first_esc s w r hl 0 0 (Lib.hid fun w => escaped_none _ w (by rw [tail_bytes hl]; exact h))
    · rw [if_neg h92] at h
      by_cases h39 : a = 39
      · subst h39
        rw [if_pos rfl] at h
        refine first_other s w 39 r hl (by decide) ?_ false rfl
        rintro t rfl
        simp at h
      · rw [if_neg h39] at h
        refine first_other s w a r hl h92 (fun _ _ => h39) false ?_
        rw [if_neg h39]
        cases hp : plainB a.toNat
        · rfl
        · rw [hp] at h; simp at h
/-- .. and some, with how many bytes it takes. -/
theorem first_some (s : ByteArray) (c : UInt8) (r : List UInt8) (w : World) (h : firstL s.data.toList = some (c, r)) :
    ∃ n : Nat, 1 ≤ n ∧ n ≤ 3 ∧ s.size = r.length + n ∧ s.data.toList.drop n = r ∧ Calls Tryz.prog 135 #[.string s] w fun e w' => e = .returned (.tuple #[.int .u8 c.toNat, .int .i64 n]) ∧ Drawn w w' := by
  cases hl : s.data.toList with
  | nil => rw [hl] at h; simp [firstL] at h
  | cons a t =>
    have hsz := size_list hl
    rw [hl] at h
    simp only [firstL] at h
    by_cases h92 : a = 92
    · subst h92
      rw [if_pos rfl] at h
      have hlen := escL_len h
      refine ⟨3, by omega, by omega, by rw [hsz, List.length_cons]; omega, ?_, first_esc s w t hl _ _ (Lib.hid fun w => escaped_some _ c r w (by rw [tail_bytes hl]; exact h))⟩
      match t, h with
      | x :: y :: t', h =>
        simp only [escL] at h
        split at h
        · split at h
          · cases h
          · simp only [Option.some.injEq, Prod.mk.injEq] at h; exact h.2
        · cases h
    · rw [if_neg h92] at h
      by_cases h39 : a = 39
      · subst h39
        rw [if_pos rfl] at h
        split at h
        · split at h
          · rename_i d r' hd
            subst hd
            simp only [Option.some.injEq, Prod.mk.injEq] at h
            obtain ⟨rfl, rfl⟩ := h
            exact ⟨2, by omega, by omega, by rw [hsz]; rfl, rfl, first_quotes s w _ hl⟩
          · cases h
        · cases h
      · rw [if_neg h39] at h
        split at h
        · rename_i hp
          simp only [Option.some.injEq, Prod.mk.injEq] at h
          obtain ⟨rfl, rfl⟩ := h
          exact ⟨1, by omega, by omega, by rw [hsz]; rfl, rfl, first_other s w a _ hl h92 (fun _ _ => h39) true (by rw [if_neg h39]; exact hp)⟩
        · cases h
end Go.Proofs.YtjaclmoobfeikaaGreatDoor
namespace Go.Proofs.YtjaclmoobfeikaaGreatDoor
open Go.RowKit

theorem ne_ro {l m : List Vl} (h : l ≠ m) : (rowsOrd l m == 0) = false := by
  rw [beq_eq_false_iff_ne]
  exact fun e => h ((ro_zero l m).1 e)
theorem eq_ro {l m : List Vl} (h : l = m) : (rowsOrd l m == 0) = true := by
  rw [beq_iff_eq]
  exact (ro_zero l m).2 h
theorem take_go {l m : List Vl} {k : Nat} (h : k < l.length) (h' : k < m.length) (ht : l.take k = m.take k) (hx : l.getD k default = m.getD k default) : l.take (k + 1) = m.take (k + 1) := by
  rw [List.take_succ_eq_append_getElem h, List.take_succ_eq_append_getElem h', ht]
  simp only [List.getD, List.getElem?_eq_getElem h, List.getElem?_eq_getElem h', Option.getD_some] at hx
  rw [hx]

set_option maxHeartbeats 800000 in
theorem refSame_any (a a' : Option Addr) (cap cap' : Nat) (l m : List Vl) (w : World) (h : RowAt w a l) (h' : RowAt w a' m) :
    Calls Tryz.prog 32 #[.slice a l.length cap, .slice a' m.length cap'] w fun e w' => e = .returned (.bool (rowsOrd l m == 0)) ∧ Below w.heap.size w w' := by
  by_cases hll : l.length = m.length
  · have hm := h.1
    have H := Lib.hid h
    have H' := Lib.hid h'
    clear h h'
    rw [← hll]
    generalize hlen : l.length = len at *
    have Hlen := Lib.hid hlen
    have Hlen' := Lib.hid hll.symm
    clear hlen hll
    go_enter Tryz.func32, Tryz.ntmps32
    go_wp2
    go_loopw [13] (fun i wr => ∃ k : Nat, k ≤ len ∧ i = .int .i64 k ∧ Hid (l.take k = m.take k) ∧ Below w.heap.size w wr) (fun i _ => len - (intOf i).toNat)
    case atStart => exact ⟨0, Nat.zero_le _, rfl, rfl, Below.refl _ _⟩
    case round =>
      obtain ⟨k, hk, rfl, htk, hbl⟩ := hrel
      by_cases hlt : k < len
      · obtain ⟨b, off, rfl, hbs, c0, c1, c2⟩ := (H.out.keep hbl).at (i := k) (by rw [Hlen.out]; exact hlt)
        obtain ⟨b', off', rfl, hbs', d0, d1, d2⟩ := (H'.out.keep hbl).at (i := k) (by rw [Hlen'.out]; exact hlt)
        generalize hx : l.getD k default = x at *
        have Hx := Lib.hid hx
        clear hx
        generalize hy : m.getD k default = y at *
        have Hy := Lib.hid hy
        clear hy
        obtain ⟨xk, xn, xs⟩ := x
        obtain ⟨yk, yn, ys⟩ := y
        simp only at c0 c1 c2 d0 d1 d2
        by_cases hne : (⟨xk, xn, xs⟩ : Vl) = ⟨yk, yn, ys⟩
        · obtain ⟨rfl, rfl, rfl⟩ := Vl.mk.inj hne
          clear hne
          go_wp2_with fail
          go_quiet (fail)
          go_wp2_with fail
          go_roundw
          case rel => exact ⟨k + 1, by omega, by go_num, take_go (by rw [Hlen.out]; exact hlt) (by rw [Hlen'.out]; exact hlt) htk.out (by rw [Hx.out, Hy.out]), below_drewN hbl _⟩
          case measure => simp [intOf]; omega
        · have HNE := Lib.hid hne
          clear hne
          by_cases h1 : xk = yk
          · subst h1
            by_cases h2 : xn = yn
            · subst h2
              have h3 : ¬ xs.toList = ys.toList := fun h => HNE.out (by rw [bytes_ext (a := xs) (b := ys) (by rw [← Lib.toList_data, ← Lib.toList_data, h])])
              go_wp2_with fail
              go_quiet (fail)
              go_wp2_with fail
              go_ret
              exact ⟨ret_bool (ne_ro (fun e => HNE.out (by rw [← Hx.out, ← Hy.out, e]))).symm, below_drewN hbl _⟩
            · go_wp2_with fail
              go_quiet (fail)
              go_wp2_with fail
              go_ret
              exact ⟨ret_bool (ne_ro (fun e => HNE.out (by rw [← Hx.out, ← Hy.out, e]))).symm, below_drewN hbl _⟩
          · go_wp2_with fail
            go_quiet (fail)
            go_wp2_with fail
            go_ret
            exact ⟨ret_bool (ne_ro (fun e => HNE.out (by rw [← Hx.out, ← Hy.out, e]))).symm, below_drewN hbl _⟩
      · obtain rfl : k = len := by omega
        go_wp2_with fail
        go_ret
        exact ⟨ret_bool (eq_ro (by have := htk.out; rwa [List.take_of_length_le (by rw [Hlen.out]; exact Nat.le_refl _), List.take_of_length_le (by rw [Hlen'.out]; exact Nat.le_refl _)] at this)).symm, hbl⟩
  · have hne : (rowsOrd l m == 0) = false := ne_ro (fun e => hll (by rw [e]))
    rw [hne]
    have hd : ((l.length : Int) != (m.length : Int)) = true := by rw [bne_iff_ne]; omega
    clear h h' hne hll
    generalize l.length = len at *
    generalize m.length = len' at *
    go_enter Tryz.func32, Tryz.ntmps32
    go_wp2_with fail
    go_ret
    exact ⟨rfl, Below.refl _ _⟩
end Go.Proofs.YtjaclmoobfeikaaGreatDoor
