/- Contracts of the texts of values: how a text is written between quotes. Asked: at most 60 bytes. -/
import Derived.Test.YthdofhicccabiaaDoorBuild
namespace Go.Proofs.YthdofhicccabiaaDoor
open Go.RowKit

/-- The digit of a number from 0 to 15. -/
def hexd (n : Nat) : UInt8 := if n < 10 then UInt8.ofNat (48 + n) else UInt8.ofNat (87 + n)
/-- Is a byte written as itself? -/
def plainB (c : Nat) : Bool := decide (32 ≤ c) && decide (c ≤ 126) && (c != 92)
/-- How one byte is written. -/
def q1 (c : UInt8) : List UInt8 := if c = 39 then [39, 39] else if plainB c.toNat then [c] else [92, hexd (c.toNat / 16), hexd (c.toNat % 16)]
def qs (l : List UInt8) : List UInt8 := l.flatMap q1

set_option maxHeartbeats 400000 in
theorem readable_any (c : Nat) (w : World) (h : c < 256) :
    Calls Tryd.prog 58 #[.int .u8 c] w fun e w' => e = .returned (.bool (plainB c)) ∧ w = w' := by
  go_enter Tryd.func58, Tryd.ntmps58
  go_wp2
  all_goals (go_ret; refine ⟨ret_bool ?_, rfl⟩; unfold plainB; rw [Bool.eq_iff_iff]; simp; omega)

theorem q1_len (c : UInt8) : (q1 c).length ≤ 3 := by
  unfold q1
  split
  · simp
  · split <;> simp
theorem qs_len (l : List UInt8) : (qs l).length ≤ 3 * l.length := by
  induction l with
  | nil => simp [qs]
  | cons c l ih =>
    have := q1_len c
    simp only [qs, List.flatMap_cons, List.length_append, List.length_cons] at ih ⊢
    omega
theorem take_snoc (s : ByteArray) (k : Nat) (h : k < s.size) : s.data.toList.take (k + 1) = s.data.toList.take k ++ [s[k]] := by
  rw [List.take_succ_eq_append_getElem (by simpa using h)]; rfl
theorem qs_snoc (s : ByteArray) (k : Nat) (h : k < s.size) : qs (s.data.toList.take (k + 1)) = qs (s.data.toList.take k) ++ q1 s[k] := by
  rw [take_snoc s k h]; simp [qs]
theorem qs_take_len (s : ByteArray) (k : Nat) (hk : k ≤ 60) : (39 :: qs (s.data.toList.take k)).length ≤ 200 := by
  have h1 := qs_len (s.data.toList.take k)
  have h2 : (s.data.toList.take k).length ≤ k := List.length_take_le _ _
  simp only [List.length_cons]
  omega
theorem byte_lt (u : UInt8) : u.toNat < 256 := u.toNat_lt

/-- A builder of the call's own, in block B, that holds the bytes l. -/
def QB (B : Nat) (l : List UInt8) (w : World) : Prop := Lib.IsBuilder 67 5 B B (Lib.byteCells l) w

theorem QB.lt {B : Nat} {l : List UInt8} {w : World} (h : QB B l w) : B < w.heap.size := by
  rcases h with h | h <;> exact h.lt

theorem wb_any (B : Nat) (l : List UInt8) (c : Int) (u : UInt8) (w : World) (hc : (u.toNat : Int) = c) (h : QB B l w) (hl : l.length ≤ 1000) :
    Calls Tryd.prog 56 #[.pointer (some ⟨B, 0, none⟩), .int .u8 c] w fun e w' => e = .returned .nilIface ∧ QB B (l ++ [u]) w' ∧ Below B w w' := by
  refine (writeByte_any B B (Lib.byteCells l) c w h (by rw [Lib.byteCells_length]; omega) (Nat.le_of_lt h.lt)).mono ?_
  rintro e w' ⟨rfl, h1, h2⟩
  refine ⟨rfl, Or.inr ?_, h2⟩
  rw [Lib.byteCells_append]
  subst hc
  exact h1

theorem ws_any (B : Nat) (l : List UInt8) (s : ByteArray) (w : World) (h : QB B l w) (hl : l.length ≤ 1000) (hs : s.size ≤ 1000) :
    Calls Tryd.prog 57 #[.pointer (some ⟨B, 0, none⟩), .string s] w fun e w' => e = .returned (.tuple #[.int .i64 s.size, .nilIface]) ∧ QB B (l ++ s.data.toList) w' ∧ Below B w w' := by
  refine (writeString_any B B (Lib.byteCells l) s w h (by rw [Lib.byteCells_length]; omega) (Nat.le_of_lt h.lt)).mono ?_
  rintro e w' ⟨rfl, h1, h2⟩
  refine ⟨rfl, Or.inr ?_, h2⟩
  rw [Lib.byteCells_append]
  exact h1

theorem ret_string {a b : List UInt8} (h : a = b) : Ending.returned (.string ⟨a.toArray⟩) = .returned (.string ⟨b.toArray⟩) := by rw [h]
theorem dig_at (n : Nat) (h : n < 16) : (⟨#[48, 49, 50, 51, 52, 53, 54, 55, 56, 57, 97, 98, 99, 100, 101, 102]⟩ : ByteArray)[n]'h = hexd n := by
  have : ∀ i : Fin 16, (⟨#[48, 49, 50, 51, 52, 53, 54, 55, 56, 57, 97, 98, 99, 100, 101, 102]⟩ : ByteArray)[i.val]'i.isLt = hexd i.val := by decide +kernel
  exact this ⟨n, h⟩
theorem q_quote {B : Nat} {l : List UInt8} {u : UInt8} {w : World} (h : QB B (39 :: l ++ [39, 39]) w) (hu : ((u.toNat : Int) == 39) = true) : QB B (39 :: (l ++ q1 u)) w := by
  have e : u = 39 := by
    have : u.toNat = 39 := by have := beq_iff_eq.1 hu; omega
    exact UInt8.toNat_inj.1 this
  subst e
  exact h
theorem ne_quote {u : UInt8} (hu : ((u.toNat : Int) == 39) = false) : u ≠ 39 := by
  rintro rfl
  exact absurd hu (by decide)
theorem q_plain {B : Nat} {l : List UInt8} {u : UInt8} {w : World} (h : QB B (39 :: l ++ [u]) w) (hu : ((u.toNat : Int) == 39) = false) (hp : plainB u.toNat = true) : QB B (39 :: (l ++ q1 u)) w := by
  rw [q1, if_neg (ne_quote hu), if_pos hp]
  exact h

theorem q_hex {B : Nat} {l : List UInt8} {u : UInt8} {w : World} (h : QB B (39 :: l ++ [92] ++ [hexd (u.toNat / 16)] ++ [hexd (u.toNat % 16)]) w) (hu : ((u.toNat : Int) == 39) = false) (hp : plainB u.toNat = false) : QB B (39 :: (l ++ q1 u)) w := by
  rw [q1, if_neg (ne_quote hu), if_neg (by simp [hp])]
  simpa using h

set_option maxHeartbeats 400000 in
theorem quote_any (s : ByteArray) (w : World) (hs : s.size ≤ 60) :
    Calls Tryd.prog 43 #[.string s] w fun e w' => e = .returned (.string ⟨(39 :: (qs s.data.toList ++ [39])).toArray⟩) ∧ Below w.heap.size w w' := by
  go_enter Tryd.func43, Tryd.ntmps43
  go_wp2_with fail
  refine (wb_any w.heap.size [] 39 39 _ rfl (Lib.fresh_isBuilder _ _ w) (by simp)).mono ?_
  rintro e w1 ⟨rfl, hq1, hb1⟩
  have hb1' : Below w.heap.size w w1 := ((Below.refl _ _).alloc (Nat.le_refl _) _).trans hb1
  clear hb1
  go_wp2_with fail
  go_loopw [9] (fun i wr => ∃ k : Nat, k ≤ s.size ∧ i = .int .i64 k ∧ QB w.heap.size (39 :: qs (s.data.toList.take k)) wr ∧ Below w.heap.size w wr) (fun i _ => s.size - (intOf i).toNat)
  case atStart => exact ⟨0, Nat.zero_le _, rfl, hq1, hb1'⟩
  case round =>
    obtain ⟨k, hk, rfl, hq, hbl⟩ := hrel
    clear hq1 hb1'
    have hlen := qs_take_len s k (by omega)
    by_cases hlt : k < s.size
    · have hb256 := byte_lt s[k]
      go_wp2_with fail
      · refine (ws_any w.heap.size _ ⟨#[39, 39]⟩ _ hq (by omega) (by decide)).mono ?_
        rintro e w2 ⟨rfl, hq2, hb2⟩
        go_wp2_with fail
        go_roundw
        case rel => exact ⟨k + 1, by omega, by go_num, by rw [qs_snoc s k hlt]; exact (q_quote hq2 ‹_›), hbl.trans hb2⟩
        case measure => simp [intOf]; omega
      · refine (readable_any s[k].toNat _ hb256).mono ?_
        rintro e w2 ⟨rfl, rfl⟩
        go_wp2_with fail
        · refine (wb_any w.heap.size _ _ s[k] _ rfl hq (by omega)).mono ?_
          rintro e w2 ⟨rfl, hq2, hb2⟩
          go_wp2_with fail
          go_roundw
          case rel => exact ⟨k + 1, by omega, by go_num, by rw [qs_snoc s k hlt]; exact (q_plain hq2 ‹_› ‹_›), hbl.trans hb2⟩
          case measure => simp [intOf]; omega
        · refine (wb_any w.heap.size _ _ 92 _ rfl hq (by omega)).mono ?_
          rintro e w2 ⟨rfl, hq2, hb2⟩
          go_wp2_with fail
          refine (wb_any w.heap.size _ _ (hexd (s[k].toNat / 16)) _ (congrArg (fun u : UInt8 => (u.toNat : Int)) (dig_at _ (by omega)).symm) hq2 (by simp only [List.length_append, List.length_cons, List.length_nil] at *; omega)).mono ?_
          rintro e w3 ⟨rfl, hq3, hb3⟩
          go_wp2_with fail
          refine (wb_any w.heap.size _ _ (hexd (s[k].toNat % 16)) _ (congrArg (fun u : UInt8 => (u.toNat : Int)) (dig_at _ (by omega)).symm) hq3 (by simp only [List.length_append, List.length_cons, List.length_nil] at *; omega)).mono ?_
          rintro e w4 ⟨rfl, hq4, hb4⟩
          go_wp2_with fail
          go_roundw
          case rel => exact ⟨k + 1, by omega, by go_num, by rw [qs_snoc s k hlt]; exact (q_hex hq4 ‹_› ‹_›), ((hbl.trans hb2).trans hb3).trans hb4⟩
          case measure => simp [intOf]; omega
    · go_wp2_with fail
      refine (wb_any w.heap.size _ _ 39 _ rfl hq (by omega)).mono ?_
      rintro e w2 ⟨rfl, hq2, hb2⟩
      go_wp2_with fail
      refine (Tryd.Builder_String_any w.heap.size w.heap.size _ _ hq2 (Nat.le_of_lt hq2.lt)).mono ?_
      rintro e w3 ⟨rfl, hb3⟩
      go_wp2_with fail
      go_ret
      exact ⟨ret_string (by rw [List.take_of_length_le (by simp; omega)]), (hbl.trans hb2).trans hb3⟩
end Go.Proofs.YthdofhicccabiaaDoor
