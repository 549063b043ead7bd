import Derived.Test.YtfambadamebjjaaZs00
import Derived.Lib.Hide
import Derived.Deep.RegionHeld3
import Derived.Deep.RegionWith
import Derived.Deep.QuietTactic
import Derived.BigQuiet
import Derived.Test.YtfambadamebjjaaZs01
set_option linter.unusedSimpArgs false
set_option linter.unusedVariables false
namespace Go.Proofs.Ytfambadamebjjaa
open Go.RowKit

def relB (r : Int) : Bool := decide (1 ≤ r) && decide (r ≤ 6)
def saysB (r o : Int) : Bool :=
 if r = 1 then o == 0 else if r = 2 then o != 0 else if r = 3 then decide (o < 0) else if r = 4 then decide (o ≤ 0) else if r = 5 then decide (0 < o) else if r = 6 then decide (0 ≤ o) else false
def turnT (r : Int) : Int := if r = 1 then 1 else if r = 2 then 2 else if r = 3 then 5 else if r = 4 then 6 else if r = 5 then 3 else if r = 6 then 4 else 0
def relE (r : Int) : Int := if relB r = true then 0 else 1
def signS (r : Int) : ByteArray := if r = 1 then ⟨#[61]⟩ else if r = 2 then ⟨#[60, 62]⟩ else if r = 3 then ⟨#[60]⟩ else if r = 4 then ⟨#[60, 61]⟩ else if r = 5 then ⟨#[62]⟩ else if r = 6 then ⟨#[62, 61]⟩ else ⟨#[]⟩

theorem rel_cases (r : Int) : r = 1 ∨ r = 2 ∨ r = 3 ∨ r = 4 ∨ r = 5 ∨ r = 6 ∨ (r < 1 ∨ 6 < r) := by omega
theorem relB_cases {r : Int} (h : relB r = true) : r = 1 ∨ r = 2 ∨ r = 3 ∨ r = 4 ∨ r = 5 ∨ r = 6 := by
 simp [relB] at h; omega
theorem ret_iii {a a' b b' : Int} (h : a = a') (h' : b = b') : Ending.returned (.tuple #[.int .i64 a, .int .i64 b]) = .returned (.tuple #[.int .i64 a', .int .i64 b']) := by rw [h, h']

theorem known_any (r : Int) (w : World) :
  Calls Try.prog 87 #[.int .i64 r] w fun e w' => e = .returned (.bool (relB r)) ∧ w = w' := by
 go_enter Try.func87, Try.ntmps87
 go_wp2
 all_goals
  go_ret
  exact ⟨ret_bool (by simp_all [relB] <;> omega), rfl⟩

set_option maxHeartbeats 800000 in
theorem says_any (r o : Int) (w : World) :
  Calls Try.prog 88 #[.int .i64 r, .int .i64 o] w fun e w' => e = .returned (.bool (saysB r o)) ∧ w = w' := by
 rcases rel_cases r with rfl | rfl | rfl | rfl | rfl | rfl | h
 ·go_enter Try.func88, Try.ntmps88
  go_wp2
  go_ret
  exact ⟨ret_bool (by simp [saysB]), rfl⟩
 ·go_enter Try.func88, Try.ntmps88
  go_wp2
  go_ret
  exact ⟨ret_bool (by simp [saysB]), rfl⟩
 ·go_enter Try.func88, Try.ntmps88
  go_wp2
  go_ret
  exact ⟨ret_bool (by simp [saysB]), rfl⟩
 ·by_cases ho : o = 0
  ·subst ho
   go_enter Try.func88, Try.ntmps88
   go_wp2
   go_ret
   exact ⟨rfl, rfl⟩
  ·have e1 : (o == 0) = false := by simpa using ho
   have Hs : Hid (saysB 4 o = decide (o < 0)) := Lib.hid (by
    have e : saysB 4 o = decide (o ≤ 0) := by simp [saysB]
    rw [e, decide_eq_decide]
    omega)
   clear ho
   go_enter Try.func88, Try.ntmps88
   go_wp2
   go_ret
   exact ⟨ret_bool Hs.out.symm, rfl⟩
 ·go_enter Try.func88, Try.ntmps88
  go_wp2
  go_ret
  exact ⟨ret_bool (by simp [saysB]), rfl⟩
 ·by_cases ho : o = 0
  ·subst ho
   go_enter Try.func88, Try.ntmps88
   go_wp2
   go_ret
   exact ⟨rfl, rfl⟩
  ·have e1 : (o == 0) = false := by simpa using ho
   have Hs : Hid (saysB 6 o = decide (0 < o)) := Lib.hid (by
    have e : saysB 6 o = decide (0 ≤ o) := by simp [saysB]
    rw [e, decide_eq_decide]
    omega)
   clear ho
   go_enter Try.func88, Try.ntmps88
   go_wp2
   go_ret
   exact ⟨ret_bool Hs.out.symm, rfl⟩
 ·have e1 : (r == 1) = false := by simp; omega
  have e2 : (r == 2) = false := by simp; omega
  have e3 : (r == 3) = false := by simp; omega
  have e4 : (r == 4) = false := by simp; omega
  have e5 : (r == 5) = false := by simp; omega
  have e6 : (r == 6) = false := by simp; omega
  have hs : Hid (saysB r o = false) := Lib.hid (by unfold saysB; rw [if_neg (by omega), if_neg (by omega), if_neg (by omega), if_neg (by omega), if_neg (by omega), if_neg (by omega)])
  clear h
  go_enter Try.func88, Try.ntmps88
  go_wp2
  go_ret
  exact ⟨ret_bool hs.out.symm, rfl⟩

theorem ret_str {a b : ByteArray} (h : a = b) : Ending.returned (.string a) = .returned (.string b) := by rw [h]

theorem bool_any (b : Bool) (w : World) :
  Calls Try.prog 22 #[.bool b] w fun e w' => e = .returned (.int .i64 (if b = true then 1 else 0)) ∧ w = w' := by
 cases b <;>
 ·go_enter Try.func22, Try.ntmps22
  go_wp2
  go_ret
  exact ⟨rfl, rfl⟩

theorem refTurned_any (r : Int) (w : World) :
  Calls Try.prog 86 #[.int .i64 r] w fun e w' => e = .returned (.int .i64 (turnT r)) ∧ w = w' := by
 rcases rel_cases r with rfl | rfl | rfl | rfl | rfl | rfl | h
 ·have hi : ∀ w, (Instr.index 165 (.agg #[.int .i64 0, .int .i64 1, .int .i64 2, .int .i64 5, .int .i64 6, .int .i64 3, .int .i64 4]) (.int .i64 1)).run Try.prog w = .ok (.int .i64 1) w := fun _ => by kernel_rfl
  go_enter Try.func86, Try.ntmps86
  go_wp2
  go_ret
  exact ⟨rfl, rfl⟩
 ·have hi : ∀ w, (Instr.index 165 (.agg #[.int .i64 0, .int .i64 1, .int .i64 2, .int .i64 5, .int .i64 6, .int .i64 3, .int .i64 4]) (.int .i64 2)).run Try.prog w = .ok (.int .i64 2) w := fun _ => by kernel_rfl
  go_enter Try.func86, Try.ntmps86
  go_wp2
  go_ret
  exact ⟨rfl, rfl⟩
 ·have hi : ∀ w, (Instr.index 165 (.agg #[.int .i64 0, .int .i64 1, .int .i64 2, .int .i64 5, .int .i64 6, .int .i64 3, .int .i64 4]) (.int .i64 3)).run Try.prog w = .ok (.int .i64 5) w := fun _ => by kernel_rfl
  go_enter Try.func86, Try.ntmps86
  go_wp2
  go_ret
  exact ⟨rfl, rfl⟩
 ·have hi : ∀ w, (Instr.index 165 (.agg #[.int .i64 0, .int .i64 1, .int .i64 2, .int .i64 5, .int .i64 6, .int .i64 3, .int .i64 4]) (.int .i64 4)).run Try.prog w = .ok (.int .i64 6) w := fun _ => by kernel_rfl
  go_enter Try.func86, Try.ntmps86
  go_wp2
  go_ret
  exact ⟨rfl, rfl⟩
 ·have hi : ∀ w, (Instr.index 165 (.agg #[.int .i64 0, .int .i64 1, .int .i64 2, .int .i64 5, .int .i64 6, .int .i64 3, .int .i64 4]) (.int .i64 5)).run Try.prog w = .ok (.int .i64 3) w := fun _ => by kernel_rfl
  go_enter Try.func86, Try.ntmps86
  go_wp2
  go_ret
  exact ⟨rfl, rfl⟩
 ·have hi : ∀ w, (Instr.index 165 (.agg #[.int .i64 0, .int .i64 1, .int .i64 2, .int .i64 5, .int .i64 6, .int .i64 3, .int .i64 4]) (.int .i64 6)).run Try.prog w = .ok (.int .i64 4) w := fun _ => by kernel_rfl
  go_enter Try.func86, Try.ntmps86
  go_wp2
  go_ret
  exact ⟨rfl, rfl⟩
 ·have ho : Hid (turnT r = 0) := Lib.hid (by unfold turnT; rw [if_neg (by omega), if_neg (by omega), if_neg (by omega), if_neg (by omega), if_neg (by omega), if_neg (by omega)])
  rcases h with h | h
  all_goals
   go_enter Try.func86, Try.ntmps86
   go_wp2
   go_ret
   exact ⟨ret_int ho.out.symm, rfl⟩

theorem refSign_any (r : Int) (w : World) :
  Calls Try.prog 91 #[.int .i64 r] w fun e w' => e = .returned (.string (signS r)) ∧ w = w' := by
 rcases rel_cases r with rfl | rfl | rfl | rfl | rfl | rfl | h
 ·have hi : ∀ w, (Instr.index 167 (.agg #[.string ⟨#[]⟩, .string ⟨#[61]⟩, .string ⟨#[60, 62]⟩, .string ⟨#[60]⟩, .string ⟨#[60, 61]⟩, .string ⟨#[62]⟩, .string ⟨#[62, 61]⟩]) (.int .i64 1)).run Try.prog w = .ok (.string ⟨#[61]⟩) w := fun _ => by kernel_rfl
  go_enter Try.func91, Try.ntmps91
  go_wp2
  go_ret
  exact ⟨rfl, rfl⟩
 ·have hi : ∀ w, (Instr.index 167 (.agg #[.string ⟨#[]⟩, .string ⟨#[61]⟩, .string ⟨#[60, 62]⟩, .string ⟨#[60]⟩, .string ⟨#[60, 61]⟩, .string ⟨#[62]⟩, .string ⟨#[62, 61]⟩]) (.int .i64 2)).run Try.prog w = .ok (.string ⟨#[60, 62]⟩) w := fun _ => by kernel_rfl
  go_enter Try.func91, Try.ntmps91
  go_wp2
  go_ret
  exact ⟨rfl, rfl⟩
 ·have hi : ∀ w, (Instr.index 167 (.agg #[.string ⟨#[]⟩, .string ⟨#[61]⟩, .string ⟨#[60, 62]⟩, .string ⟨#[60]⟩, .string ⟨#[60, 61]⟩, .string ⟨#[62]⟩, .string ⟨#[62, 61]⟩]) (.int .i64 3)).run Try.prog w = .ok (.string ⟨#[60]⟩) w := fun _ => by kernel_rfl
  go_enter Try.func91, Try.ntmps91
  go_wp2
  go_ret
  exact ⟨rfl, rfl⟩
 ·have hi : ∀ w, (Instr.index 167 (.agg #[.string ⟨#[]⟩, .string ⟨#[61]⟩, .string ⟨#[60, 62]⟩, .string ⟨#[60]⟩, .string ⟨#[60, 61]⟩, .string ⟨#[62]⟩, .string ⟨#[62, 61]⟩]) (.int .i64 4)).run Try.prog w = .ok (.string ⟨#[60, 61]⟩) w := fun _ => by kernel_rfl
  go_enter Try.func91, Try.ntmps91
  go_wp2
  go_ret
  exact ⟨rfl, rfl⟩
 ·have hi : ∀ w, (Instr.index 167 (.agg #[.string ⟨#[]⟩, .string ⟨#[61]⟩, .string ⟨#[60, 62]⟩, .string ⟨#[60]⟩, .string ⟨#[60, 61]⟩, .string ⟨#[62]⟩, .string ⟨#[62, 61]⟩]) (.int .i64 5)).run Try.prog w = .ok (.string ⟨#[62]⟩) w := fun _ => by kernel_rfl
  go_enter Try.func91, Try.ntmps91
  go_wp2
  go_ret
  exact ⟨rfl, rfl⟩
 ·have hi : ∀ w, (Instr.index 167 (.agg #[.string ⟨#[]⟩, .string ⟨#[61]⟩, .string ⟨#[60, 62]⟩, .string ⟨#[60]⟩, .string ⟨#[60, 61]⟩, .string ⟨#[62]⟩, .string ⟨#[62, 61]⟩]) (.int .i64 6)).run Try.prog w = .ok (.string ⟨#[62, 61]⟩) w := fun _ => by kernel_rfl
  go_enter Try.func91, Try.ntmps91
  go_wp2
  go_ret
  exact ⟨rfl, rfl⟩
 ·have ho : Hid (signS r = ⟨#[]⟩) := Lib.hid (by unfold signS; rw [if_neg (by omega), if_neg (by omega), if_neg (by omega), if_neg (by omega), if_neg (by omega), if_neg (by omega)])
  rcases h with h | h
  all_goals
   go_enter Try.func91, Try.ntmps91
   go_wp2
   go_ret
   exact ⟨ret_str ho.out.symm, rfl⟩

end Go.Proofs.Ytfambadamebjjaa
namespace Go.Proofs.Ytfambadamebjjaa
open Go.RowKit

def notT (a : Int) : Int := if a = 0 then 1 else if a = 1 then 0 else 2
def isT (a : Int) : Prop := a = 0 ∨ a = 1 ∨ a = 2
def joinT (d r : Int) (l : List Int) : Int := if d ∈ l then d else if 2 ∈ l then 2 else r

def IntsAt (k : IntKind) (w : World) (a : Option Addr) (l : List Int) : Prop :=
 l.length ≤ 9223372036854775807 ∧ (l = [] ∨ ∃ b off, a = some ⟨b, off, none⟩ ∧ b < w.heap.size ∧ ∀ i, i < l.length → w.cell? ⟨b, off + i, none⟩ = some (.int k (l.getD i 0)))
theorem IntsAt.keep {k : IntKind} {w w' : World} {a : Option Addr} {l : List Int} (h : IntsAt k w a l) (hb : Below w.heap.size w w') : IntsAt k w' a l := by
 obtain ⟨h1, h3⟩ := h
 refine ⟨h1, ?_⟩
 rcases h3 with h3 | ⟨b, off, e, hlt, hc⟩
 ·exact .inl h3
 ·have := hb.size
  exact .inr ⟨b, off, e, by omega, fun i hi => (hb.cell (p := ⟨b, _, none⟩) hlt).trans (hc i hi)⟩
theorem IntsAt.at {k : IntKind} {w : World} {a : Option Addr} {l : List Int} (h : IntsAt k w a l) {i : Nat} (hi : i < l.length) : ∃ b off, a = some ⟨b, off, none⟩ ∧ b < w.heap.size ∧ w.cell? ⟨b, off + i, none⟩ = some (.int k (l.getD i 0)) := by
 rcases h.2 with h3 | ⟨b, off, e, hlt, hc⟩
 ·rw [h3] at hi; simp at hi
 ·exact ⟨b, off, e, hlt, hc i hi⟩

theorem getD_mem {l : List Int} {i : Nat} (h : i < l.length) : l.getD i 0 ∈ l := by
 simp [List.getD, h]
theorem take_getD {l : List Int} {i : Nat} (h : i < l.length) : l.take (i + 1) = l.take i ++ [l.getD i 0] := by
 rw [List.take_succ_eq_append_getElem h]; simp [List.getD, h]

theorem not_any (a : Int) (w : World) :
  Calls Try.prog 65 #[.int .i64 a] w fun e w' => e = .returned (.int .i64 (notT a)) ∧ w = w' := by
 go_enter Try.func65, Try.ntmps65
 go_wp2
 all_goals
  go_ret
  exact ⟨ret_int (by simp_all [notT]), rfl⟩

theorem refNot_any (a : Int) (w : World) (h : isT a) :
  Calls Try.prog 25 #[.int .i64 a] w fun e w' => e = .returned (.int .i64 (notT a)) ∧ w = w' := by
 rcases h with rfl | rfl | rfl <;>
 ·go_enter Try.func25, Try.ntmps25
  go_wp2
  go_ret
  exact ⟨ret_int (by decide), rfl⟩

theorem join_stop {d r x : Int} {l : List Int} {k : Nat} (hk : k < l.length) (hx : l.getD k 0 = x) (e : x = d) : joinT d r l = d := by
 unfold joinT
 rw [if_pos (by rw [← e, ← hx]; exact getD_mem hk)]
theorem join_go {d x : Int} {l : List Int} {k : Nat} (hk : k < l.length) (hx : l.getD k 0 = x) (hd : ¬ d ∈ l.take k) (e : ¬ x = d) : ¬ d ∈ l.take (k + 1) := by
 rw [take_getD hk, hx]
 simp [hd]
 exact fun h => e h.symm
theorem joinT_out {r x : Int} {l : List Int} {k : Nat} (hk : k < l.length) (hx : l.getD k 0 = x) (e : ¬ x = 2) : (if 2 ∈ l.take (k + 1) then 2 else r) = (if 2 ∈ l.take k then (2 : Int) else r) := by
 rw [take_getD hk, hx]
 have : ¬ (2 : Int) = x := fun h => e h.symm
 simp [this]
theorem join_two {r x : Int} {l : List Int} {k : Nat} (hk : k < l.length) (hx : l.getD k 0 = x) (e : x = 2) : (if 2 ∈ l.take (k + 1) then 2 else r) = (2 : Int) := by
 rw [take_getD hk, hx, e]
 simp
theorem join_end {d r : Int} {l : List Int} {k : Nat} (hk : l.length ≤ k) (hd : ¬ d ∈ l.take k) : (if 2 ∈ l.take k then (2 : Int) else r) = joinT d r l := by
 rw [List.take_of_length_le hk] at *
 unfold joinT
 rw [if_neg hd]

set_option maxHeartbeats 800000 in
theorem settle_any (d r : Int) (a : Option Addr) (cap : Nat) (l : List Int) (w : World) (h : IntsAt .i64 w a l) :
  Calls Try.prog 79 #[.int .i64 d, .int .i64 r, .slice a l.length cap] w fun e w' => e = .returned (.int .i64 (joinT d r l)) ∧ w = w' := by
 have hm := h.1
 have H := Lib.hid h
 clear h
 generalize hlen : l.length = len at *
 have Hlen := Lib.hid hlen
 clear hlen
 go_enter Try.func79, Try.ntmps79
 go_wp2
 go_loop [7, 13] (fun o i => ∃ (k : Nat) (x : Int), k ≤ len ∧ i = .int .i64 k ∧ o = .int .i64 x ∧ Hid (x = if 2 ∈ l.take k then (2 : Int) else r) ∧ Hid (¬ d ∈ l.take k)) (fun _ i => len - (intOf i).toNat)
 case atStart => exact ⟨0, r, Nat.zero_le _, rfl, rfl, Lib.hid (by simp), Lib.hid (by simp)⟩
 case round =>
  obtain ⟨k, o, hk, rfl, rfl, ho, hd⟩ := hrel
  by_cases hlt : k < len
  ·obtain ⟨b, off, rfl, hbs, c0⟩ := H.out.at (i := k) (by rw [Hlen.out]; exact hlt)
   generalize hx : l.getD k 0 = x at *
   have Hx := Lib.hid hx
   clear hx
   have hkl : Hid (k < l.length) := Lib.hid (by rw [Hlen.out]; exact hlt)
   by_cases hxd : x = d
   ·have e1 : (x == d) = true := by simpa using hxd
    have Hd := Lib.hid hxd
    clear hxd
    go_wp2
    go_ret
    exact ⟨ret_int (join_stop hkl.out Hx.out Hd.out).symm, rfl⟩
   ·have e1 : (x == d) = false := by simpa using hxd
    have Hd := Lib.hid hxd
    clear hxd
    by_cases hx2 : x = 2
    ·have e2 : (x == 2) = true := by simpa using hx2
     have H2 := Lib.hid hx2
     clear hx2
     go_wp2
     go_round
     case rel => exact ⟨k + 1, 2, by omega, by go_num, rfl, Lib.hid (join_two hkl.out Hx.out H2.out).symm, Lib.hid (join_go hkl.out Hx.out hd.out Hd.out)⟩
     case measure => simp [intOf]; omega
    ·have e2 : (x == 2) = false := by simpa using hx2
     have H2 := Lib.hid hx2
     clear hx2
     go_wp2
     go_round
     case rel => exact ⟨k + 1, o, by omega, by go_num, rfl, Lib.hid (ho.out.trans (joinT_out hkl.out Hx.out H2.out).symm), Lib.hid (join_go hkl.out Hx.out hd.out Hd.out)⟩
     case measure => simp [intOf]; omega
  ·obtain rfl : k = len := by omega
   go_wp2
   go_ret
   exact ⟨ret_int (ho.out.trans (join_end (by rw [Hlen.out]; exact Nat.le_refl _) hd.out)), rfl⟩

theorem and_any (a : Option Addr) (cap : Nat) (l : List Int) (w : World) (h : IntsAt .i64 w a l) :
  Calls Try.prog 63 #[.slice a l.length cap] w fun e w' => e = .returned (.int .i64 (joinT 0 1 l)) ∧ w = w' := by
 have HC := Lib.hid (settle_any 0 1 a cap l w h)
 clear h
 generalize l.length = len at *
 generalize joinT 0 1 l = x at *
 go_enter Try.func63, Try.ntmps63
 go_wp2_with fail
 refine HC.out.mono ?_
 rintro e w1 ⟨rfl, rfl⟩
 go_wp2_with fail
 go_ret
 exact ⟨rfl, rfl⟩

theorem or_any' (a : Option Addr) (cap : Nat) (l : List Int) (w : World) (h : IntsAt .i64 w a l) :
  Calls Try.prog 64 #[.slice a l.length cap] w fun e w' => e = .returned (.int .i64 (joinT 1 0 l)) ∧ w = w' := by
 have HC := Lib.hid (settle_any 1 0 a cap l w h)
 clear h
 generalize l.length = len at *
 generalize joinT 1 0 l = x at *
 go_enter Try.func64, Try.ntmps64
 go_wp2_with fail
 refine HC.out.mono ?_
 rintro e w1 ⟨rfl, rfl⟩
 go_wp2_with fail
 go_ret
 exact ⟨rfl, rfl⟩

theorem has_stop {t x : Int} {l : List Int} {k : Nat} (hk : k < l.length) (hx : l.getD k 0 = x) (e : x = t) : decide (t ∈ l) = true := by
 rw [decide_eq_true_eq, ← e, ← hx]; exact getD_mem hk
theorem has_end {t : Int} {l : List Int} {k : Nat} (hk : l.length ≤ k) (hd : ¬ t ∈ l.take k) : decide (t ∈ l) = false := by
 rw [List.take_of_length_le hk] at hd
 simpa using hd

set_option maxHeartbeats 800000 in
theorem has_any (t : Int) (a : Option Addr) (cap : Nat) (l : List Int) (w : World) (h : IntsAt .i64 w a l) :
  Calls Try.prog 46 #[.slice a l.length cap, .int .i64 t] w fun e w' => e = .returned (.bool (decide (t ∈ l))) ∧ w = w' := by
 have hm := h.1
 have H := Lib.hid h
 clear h
 generalize hlen : l.length = len at *
 have Hlen := Lib.hid hlen
 clear hlen
 go_enter Try.func46, Try.ntmps46
 go_wp2
 go_loop [8] (fun i => ∃ k : Nat, k ≤ len ∧ i = .int .i64 k ∧ Hid (¬ t ∈ l.take k)) (fun i => len - (intOf i).toNat)
 case atStart => exact ⟨0, Nat.zero_le _, rfl, Lib.hid (by simp)⟩
 case round =>
  obtain ⟨k, hk, rfl, hd⟩ := hrel
  by_cases hlt : k < len
  ·obtain ⟨b, off, rfl, hbs, c0⟩ := H.out.at (i := k) (by rw [Hlen.out]; exact hlt)
   generalize hx : l.getD k 0 = x at *
   have Hx := Lib.hid hx
   clear hx
   have hkl : Hid (k < l.length) := Lib.hid (by rw [Hlen.out]; exact hlt)
   by_cases hxd : x = t
   ·have e1 : (x == t) = true := by simpa using hxd
    have Hd := Lib.hid hxd
    clear hxd
    go_wp2
    go_ret
    exact ⟨ret_bool (has_stop hkl.out Hx.out Hd.out).symm, rfl⟩
   ·have e1 : (x == t) = false := by simpa using hxd
    have Hd := Lib.hid hxd
    clear hxd
    go_wp2
    go_round
    case rel => exact ⟨k + 1, by omega, by go_num, Lib.hid (join_go hkl.out Hx.out hd.out Hd.out)⟩
    case measure => simp [intOf]; omega
  ·obtain rfl : k = len := by omega
   go_wp2
   go_ret
   exact ⟨ret_bool (has_end (by rw [Hlen.out]; exact Nat.le_refl _) hd.out).symm, rfl⟩

theorem refAnd_any (a : Option Addr) (cap : Nat) (l : List Int) (w : World) (h : IntsAt .i64 w a l) :
  Calls Try.prog 23 #[.slice a l.length cap] w fun e w' => e = .returned (.int .i64 (joinT 0 1 l)) ∧ w = w' := by
 have H0 := Lib.hid (has_any 0 a cap l w h)
 have H2 := Lib.hid (has_any 2 a cap l w h)
 have hj : joinT 0 1 l = if decide (0 ∈ l) = true then 0 else if decide (2 ∈ l) = true then 2 else 1 := by simp [joinT]
 rw [hj]
 clear h hj
 generalize l.length = len at *
 generalize decide (0 ∈ l) = p at *
 generalize decide (2 ∈ l) = q at *
 go_enter Try.func23, Try.ntmps23
 go_wp2_with fail
 refine H0.out.mono ?_
 rintro e w1 ⟨rfl, rfl⟩
 cases p
 ·go_wp2_with fail
  refine H2.out.mono ?_
  rintro e w1 ⟨rfl, rfl⟩
  cases q <;>
  ·go_wp2_with fail
   go_ret
   exact ⟨rfl, rfl⟩
 ·go_wp2_with fail
  go_ret
  exact ⟨rfl, rfl⟩

theorem refOr_any (a : Option Addr) (cap : Nat) (l : List Int) (w : World) (h : IntsAt .i64 w a l) :
  Calls Try.prog 24 #[.slice a l.length cap] w fun e w' => e = .returned (.int .i64 (joinT 1 0 l)) ∧ w = w' := by
 have H0 := Lib.hid (has_any 1 a cap l w h)
 have H2 := Lib.hid (has_any 2 a cap l w h)
 have hj : joinT 1 0 l = if decide (1 ∈ l) = true then 1 else if decide (2 ∈ l) = true then 2 else 0 := by simp [joinT]
 rw [hj]
 clear h hj
 generalize l.length = len at *
 generalize decide (1 ∈ l) = p at *
 generalize decide (2 ∈ l) = q at *
 go_enter Try.func24, Try.ntmps24
 go_wp2_with fail
 refine H0.out.mono ?_
 rintro e w1 ⟨rfl, rfl⟩
 cases p
 ·go_wp2_with fail
  refine H2.out.mono ?_
  rintro e w1 ⟨rfl, rfl⟩
  cases q <;>
  ·go_wp2_with fail
   go_ret
   exact ⟨rfl, rfl⟩
 ·go_wp2_with fail
  go_ret
  exact ⟨rfl, rfl⟩
end Go.Proofs.Ytfambadamebjjaa
namespace Go.Proofs.Ytfambadamebjjaa
open Go.RowKit

theorem kept3 {W w1 : World} {b : Nat} {v0 v1 v2 : Value} {T : TypeId} (hb : Below W.heap.size W w1) (hB : b < W.heap.size) (hcs : W.heap[b]? = some (.cells #[v0, v1, v2] T (0, 0))) :
  w1.cell? ⟨b, 0, none⟩ = some v0 ∧ w1.cell? ⟨b, 1, none⟩ = some v1 ∧ w1.cell? ⟨b, 2, none⟩ = some v2 ∧ w1.frozen? ⟨b, 0, none⟩ = false ∧ w1.frozen? ⟨b, 1, none⟩ = false ∧ w1.frozen? ⟨b, 2, none⟩ = false := by
 have e := (hb.block b hB).trans hcs
 simp [World.cell?, World.frozen?, e]
theorem heap_new (w : World) (o : Obj) : (w.alloc o).heap[w.heap.size]? = some o := by
 show (w.heap.push o)[w.heap.size]? = _
 simp
end Go.Proofs.Ytfambadamebjjaa
namespace Go.Proofs.Ytfambadamebjjaa
open Go.RowKit

theorem or_here (a b c : Int) (o1 o2 : Obj) (w : World) :
  Calls Try.prog 92 #[.slice (some ⟨w.heap.size + 1 + 1, 0, none⟩) 3 3] (((w.alloc o1).alloc o2).alloc (.cells #[.int .i64 a, .int .i64 b, .int .i64 c] 3)).drew fun e w' => e = .returned (.int .i64 (or3 a b c)) ∧ (((w.alloc o1).alloc o2).alloc (.cells #[.int .i64 a, .int .i64 b, .int .i64 c] 3)).drew = w' :=
 or_any a b c _ _ (by go_simp) (by go_simp) (by go_simp)

set_option maxHeartbeats 400000 in
theorem compare_any (ak an : Int) (sa : ByteArray) (bk bn : Int) (sb : ByteArray) (w : World) :
  Calls Try.prog 89 #[.agg #[.int .i64 ak, .int .i64 an, .string sa], .agg #[.int .i64 bk, .int .i64 bn, .string sb]] w fun e w' => e = .returned (.int .i64 (or3 (cmp3 ak bk) (cmp3 an bn) (Lib.compareBytes sa.data.toList sb.data.toList))) ∧ Below w.heap.size w w' := by
 go_enter Try.func89, Try.ntmps89
 go_wp2
 go_region_held3 (fun w' => w'.cell? ⟨w.heap.size, 0, none⟩ = some (.int .i64 ak) ∧ w'.cell? ⟨w.heap.size, 1, none⟩ = some (.int .i64 an) ∧ w'.cell? ⟨w.heap.size, 2, none⟩ = some (.string sa) ∧ w'.cell? ⟨w.heap.size + 1, 0, none⟩ = some (.int .i64 bk) ∧ w'.cell? ⟨w.heap.size + 1, 1, none⟩ = some (.int .i64 bn) ∧ w'.cell? ⟨w.heap.size + 1, 2, none⟩ = some (.string sb)) (go_keep) (first | (go_at_call 93; refine (cmpKind_any _ _ _).mono ?_; rintro e w' ⟨rfl, rfl⟩) | (go_at_call 94; refine (cmpInt_any _ _ _).mono ?_; rintro e w' ⟨rfl, rfl⟩) | (go_at_call 95; refine (strCompare_any _ _ _).mono ?_; rintro e w' ⟨rfl, rfl⟩) | (go_at_call 92; refine (or_here _ _ _ _ _ _).mono ?_; rintro e w' ⟨rfl, rfl⟩))
 go_wp2
 go_ret
 exact ⟨rfl, ((((Below.refl _ _).alloc (Nat.le_refl _) _).alloc (by simp) _).alloc (by simp; omega) _).drew⟩

theorem drop_bytes (a : ByteArray) (k : Nat) (h : k < a.size) : a.data.toList.drop k = a[k] :: a.data.toList.drop (k + 1) := by
 rw [List.drop_eq_getElem_cons (by simpa using h)]; rfl
theorem cb_lt {a b : ByteArray} {k : Nat} (ha : k < a.size) (hb : k < b.size) (h : a[k].toNat < b[k].toNat) : Lib.compareBytes (a.data.toList.drop k) (b.data.toList.drop k) = -1 := by
 rw [drop_bytes a k ha, drop_bytes b k hb]
 simp only [Lib.compareBytes]
 rw [if_pos (UInt8.lt_iff_toNat_lt.2 h)]
theorem cb_gt {a b : ByteArray} {k : Nat} (ha : k < a.size) (hb : k < b.size) (h : b[k].toNat < a[k].toNat) : Lib.compareBytes (a.data.toList.drop k) (b.data.toList.drop k) = 1 := by
 rw [drop_bytes a k ha, drop_bytes b k hb]
 simp only [Lib.compareBytes]
 rw [if_neg (by rw [UInt8.lt_iff_toNat_lt]; omega), if_pos (UInt8.lt_iff_toNat_lt.2 h)]
theorem cb_eq {a b : ByteArray} {k : Nat} (ha : k < a.size) (hb : k < b.size) (h : ¬ a[k].toNat < b[k].toNat) (h' : ¬ b[k].toNat < a[k].toNat) : Lib.compareBytes (a.data.toList.drop k) (b.data.toList.drop k) = Lib.compareBytes (a.data.toList.drop (k + 1)) (b.data.toList.drop (k + 1)) := by
 rw [drop_bytes a k ha, drop_bytes b k hb]
 simp only [Lib.compareBytes]
 rw [if_neg (by rw [UInt8.lt_iff_toNat_lt]; omega), if_neg (by rw [UInt8.lt_iff_toNat_lt]; omega)]
theorem drop_end (a : ByteArray) (k : Nat) (h : a.size ≤ k) : a.data.toList.drop k = [] := List.drop_of_length_le (by simpa using h)
theorem cb_end {a b : ByteArray} {k : Nat} (ha : k ≤ a.size) (hb : k ≤ b.size) (h : ¬ (k < a.size ∧ k < b.size)) : Lib.compareBytes (a.data.toList.drop k) (b.data.toList.drop k) = cmp3 (a.size : Int) (b.size : Int) := by
 unfold cmp3
 by_cases h1 : k < a.size
 ·have h2 : ¬ k < b.size := fun h2 => h ⟨h1, h2⟩
  rw [drop_bytes a k h1, drop_end b k (by omega), if_neg (by omega), if_pos (by omega)]; rfl
 ·by_cases h2 : k < b.size
  ·rw [drop_bytes b k h2, drop_end a k (by omega), if_pos (by omega)]; rfl
  ·rw [drop_end a k (by omega), drop_end b k (by omega), if_neg (by omega), if_neg (by omega)]; rfl

set_option maxHeartbeats 400000 in
theorem texts_any (a b : ByteArray) (w : World) (hsa : a.size ≤ maxLen) :
  Calls Try.prog 61 #[.string a, .string b] w fun e w' => e = .returned (.int .i64 (Lib.compareBytes a.data.toList b.data.toList)) ∧ Below w.heap.size w w' := by
 unfold maxLen at hsa
 go_enter Try.func61, Try.ntmps61
 go_wp2
 go_loopw [5] (fun i wr => ∃ k : Nat, k ≤ a.size ∧ k ≤ b.size ∧ i = .int .i64 k ∧ Hid (Lib.compareBytes a.data.toList b.data.toList = Lib.compareBytes (a.data.toList.drop k) (b.data.toList.drop k)) ∧ Below w.heap.size w wr) (fun i _ => a.size - (intOf i).toNat)
 case atStart => exact ⟨0, Nat.zero_le _, Nat.zero_le _, rfl, rfl, Below.refl _ _⟩
 case round =>
  obtain ⟨k, hka, hkb, rfl, hcmp, hbl⟩ := hrel
  by_cases hla : k < a.size
  ·by_cases hlb : k < b.size
   ·go_wp2
    go_quiet (fail)
    go_wp2
    rotate_left
    ·go_quiet (fail)
     go_wp2
     ·go_ret
      exact ⟨ret_int (hcmp.out.trans (cb_gt hla hlb ‹_›)).symm, below_drewN (below_drewN hbl _) _⟩
     ·go_roundw
      case rel => exact ⟨k + 1, by omega, by omega, by go_num, hcmp.out.trans (cb_eq hla hlb ‹_› ‹_›), below_drewN hbl _⟩
      case measure => simp [intOf]; omega
    ·go_ret
     exact ⟨ret_int (hcmp.out.trans (cb_lt hla hlb ‹_›)).symm, below_drewN hbl _⟩
   ·go_wp2_with (go_at_call 60; refine (ints_any _ _ _).mono ?_; rintro e w' ⟨rfl, rfl⟩)
    go_ret
    exact ⟨ret_int (hcmp.out.trans (cb_end hka hkb (fun h => hlb h.2))).symm, hbl⟩
  ·go_wp2_with (go_at_call 60; refine (ints_any _ _ _).mono ?_; rintro e w' ⟨rfl, rfl⟩)
   go_ret
   exact ⟨ret_int (hcmp.out.trans (cb_end hka hkb (fun h => hla h.1))).symm, hbl⟩

def ordV (ak an : Int) (sa : ByteArray) (bk bn : Int) (sb : ByteArray) : Int :=
 if ak ≠ bk then cmp3 ak bk else if ak = 1 ∨ ak = 2 then cmp3 an bn else if ak = 3 then Lib.compareBytes sa.data.toList sb.data.toList else 0

theorem below2 (w : World) (o1 o2 : Obj) : Below w.heap.size w ((w.alloc o1).alloc o2) := ((Below.refl _ _).alloc (Nat.le_refl _) _).alloc (by simp) _

set_option maxHeartbeats 400000 in
theorem refCompare_any (ak an : Int) (sa : ByteArray) (bk bn : Int) (sb : ByteArray) (w : World) (hsa : sa.size ≤ maxLen) :
  Calls Try.prog 45 #[.agg #[.int .i64 ak, .int .i64 an, .string sa], .agg #[.int .i64 bk, .int .i64 bn, .string sb]] w fun e w' => e = .returned (.int .i64 (ordV ak an sa bk bn sb)) ∧ Below w.heap.size w w' := by
 go_enter Try.func45, Try.ntmps45
 go_wp2_with (first | (go_at_call 60; refine (ints_any _ _ _).mono ?_; rintro e w' ⟨rfl, rfl⟩) | (go_at_call 61; refine (texts_any _ _ _ hsa).mono ?_; rintro e w' ⟨rfl, hb⟩))
 ·go_ret
  exact ⟨ret_int (by simp_all [ordV]), below2 _ _ _⟩
 ·go_ret
  exact ⟨ret_int (by simp_all [ordV]), below2 _ _ _⟩
 ·go_ret
  exact ⟨ret_int (by simp_all [ordV]), below2 _ _ _⟩
 ·go_ret
  exact ⟨ret_int (by simp_all [ordV]), (below2 _ _ _).trans (hb.mono (by simp; omega))⟩
 ·go_ret
  exact ⟨ret_int (by simp_all [ordV]), below2 _ _ _⟩
end Go.Proofs.Ytfambadamebjjaa
