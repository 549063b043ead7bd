/- Contracts of strings.Builder's writing methods at this translation, over a builder that lies in a block of the call's own (Lib.IsBuilder): asked: the new length takes at most 2^47 bytes. Contract of value.Good: it answers goodB of the value's three cells, and what was in memory stays. No condition. Comparisons: which numbers are some, what they say of an order, the opposite, the turned one, how they are written: the program's and the document's. -/
import Derived.Test.YtjaclmoobfeikaaGreatDoorZl00
import Derived.Test.YtjaclmoobfeikaaGreatDoorShelf
import Derived.Lib.Builder
import Derived.Lib.AppendStr
import Derived.Lib.Hide
import Derived.Deep.RegionHeld3
import Derived.Deep.RegionWith
import Derived.Deep.QuietTactic
import Derived.BigQuiet
namespace Go.Proofs.YtjaclmoobfeikaaGreatDoor
open Go.RowKit

theorem byte_info : (Tryz.prog.info? 5).map (fun i => (i.zero, i.size, i.bytes)) = some (some (.int .u8 0), 1, 1) := by kernel_rfl

end Go.Proofs.YtjaclmoobfeikaaGreatDoor
namespace Go.Proofs.YtjaclmoobfeikaaGreatDoor
open Go.RowKit

end Go.Proofs.YtjaclmoobfeikaaGreatDoor
namespace Go.Proofs.YtjaclmoobfeikaaGreatDoor
open Go.RowKit

/-- Is it a comparison? -/
def relB (r : Int) : Bool := decide (1 ≤ r) && decide (r ≤ 6)
/-- The turned one. -/
def turnT (r : Int) : Int := if r = 1 then 1 else if r = 2 then 2 else if r = 3 then 5 else if r = 4 then 6 else if r = 5 then 3 else if r = 6 then 4 else 0
/-- The error. -/
def relE (r : Int) : Int := if relB r = true then 0 else 1
/-- How it is written. -/
def signS (r : Int) : ByteArray := if r = 1 then ⟨#[61]⟩ else if r = 2 then ⟨#[60, 62]⟩ else if r = 3 then ⟨#[60]⟩ else if r = 4 then ⟨#[60, 61]⟩ else if r = 5 then ⟨#[62]⟩ else if r = 6 then ⟨#[62, 61]⟩ else ⟨#[]⟩

theorem rel_cases (r : Int) : r = 1 ∨ r = 2 ∨ r = 3 ∨ r = 4 ∨ r = 5 ∨ r = 6 ∨ (r < 1 ∨ 6 < r) := by omega
theorem relB_false {r : Int} (h : r < 1 ∨ 6 < r) : relB r = false := by
  simp [relB]; omega

theorem ret_iii {a a' b b' : Int} (h : a = a') (h' : b = b') : Ending.returned (.tuple #[.int .i64 a, .int .i64 b]) = .returned (.tuple #[.int .i64 a', .int .i64 b']) := by rw [h, h']

theorem known_any (r : Int) (w : World) :
    Calls Tryz.prog 176 #[.int .i64 r] w fun e w' => e = .returned (.bool (relB r)) ∧ w = w' := by
  go_enter Tryz.func176, Tryz.ntmps176
  go_wp2
  all_goals
    go_ret
    exact ⟨ret_bool (by simp_all [relB] <;> omega), rfl⟩

/-- The other one of r's pair. -/
def swapL (r : Int) : List (Int × Int) → Int
  | [] => r
  | p :: l => if r = p.1 then p.2 else if r = p.2 then p.1 else swapL r l
/-- Pairs in memory. -/
def PairsAt (w : World) (b : Nat) (l : List (Int × Int)) : Prop :=
  ∀ i, i < l.length → w.cell? ⟨b, i * 2, none⟩ = some (.int .i64 (l.getD i (0, 0)).1) ∧ w.cell? ⟨b, i * 2 + 1, none⟩ = some (.int .i64 (l.getD i (0, 0)).2)
theorem swap_drop {r : Int} {l : List (Int × Int)} {k : Nat} (h : k < l.length) : swapL r (l.drop k) = if r = (l.getD k (0, 0)).1 then (l.getD k (0, 0)).2 else if r = (l.getD k (0, 0)).2 then (l.getD k (0, 0)).1 else swapL r (l.drop (k + 1)) := by
  rw [List.drop_eq_getElem_cons h]
  simp [swapL, List.getD, h]

set_option maxHeartbeats 800000 in
theorem swap_any (r : Int) (b cap : Nat) (l : List (Int × Int)) (w : World) (hb : b < w.heap.size) (hm : l.length ≤ 9223372036854775807) (h : PairsAt w b l) :
    Calls Tryz.prog 171 #[.int .i64 r, .slice (some ⟨b, 0, none⟩) l.length cap] w fun e w' => e = .returned (.tuple #[.int .i64 (if relB r = true then swapL r l else 0), .int .i64 (relE r)]) ∧ Below w.heap.size w w' := by
  have H := Lib.hid h
  have HK := Lib.hid (known_any r)
  clear h
  unfold relE
  generalize relB r = rb at *
  generalize hlen : l.length = len at *
  have Hlen := Lib.hid hlen
  clear hlen
  cases rb
  · go_enter Tryz.func171, Tryz.ntmps171
    go_wp2_with fail
    refine (HK.out _).mono ?_
    rintro e w1 ⟨rfl, rfl⟩
    go_wp2_with fail
    go_ret2
    exact ⟨by simp, Below.refl _ _⟩
  · go_enter Tryz.func171, Tryz.ntmps171
    go_wp2_with fail
    refine (HK.out _).mono ?_
    rintro e w1 ⟨rfl, rfl⟩
    go_wp2_with fail
    go_loopw [13] (fun i wr => ∃ k : Nat, k ≤ len ∧ i = .int .i64 k ∧ Hid (swapL r l = swapL r (l.drop k)) ∧ Below w.heap.size w wr) (fun i _ => len - (intOf i).toNat)
    case atStart => exact ⟨0, Nat.zero_le _, rfl, Lib.hid (by simp), Below.refl _ _⟩
    case round =>
      obtain ⟨k, hk, rfl, hs, hbl⟩ := hrel
      by_cases hlt : k < len
      · have hst : Hid _ := Lib.hid (swap_drop (r := r) (l := l) (k := k) (by rw [Hlen.out]; exact hlt))
        obtain ⟨c0', c1'⟩ := H.out k (by rw [Hlen.out]; exact hlt)
        have c0 := (hbl.cell (p := ⟨b, k * 2, none⟩) hb).trans c0'
        have c1 := (hbl.cell (p := ⟨b, k * 2 + 1, none⟩) hb).trans c1'
        clear c0' c1'
        have hbs : b < wr.heap.size := Nat.lt_of_lt_of_le hb hbl.size
        generalize l.getD k (0, 0) = p at *
        obtain ⟨x, y⟩ := p
        simp only at c0 c1 hst
        by_cases hx : r = x
        · have e1 : (r == x) = true := by simpa using hx
          have Hs : Hid (swapL r l = y) := Lib.hid (by rw [hs.out, hst.out, if_pos hx])
          clear hx hst hs
          go_wp2
          go_ret2
          exact ⟨ret_iii (by simp [Hs.out]) (by simp), hbl.alloc hbl.size _⟩
        · have e1 : (r == x) = false := by simpa using hx
          by_cases hy : r = y
          · have e2 : (r == y) = true := by simpa using hy
            have Hs : Hid (swapL r l = x) := Lib.hid (by rw [hs.out, hst.out, if_neg hx, if_pos hy])
            clear hx hy hst hs
            go_wp2
            go_ret2
            exact ⟨ret_iii (by simp [Hs.out]) (by simp), hbl.alloc hbl.size _⟩
          · have e2 : (r == y) = false := by simpa using hy
            have Hs : Hid (swapL r l = swapL r (l.drop (k + 1))) := Lib.hid (by rw [hs.out, hst.out, if_neg hx, if_neg hy])
            clear hx hy hst hs
            go_wp2
            go_roundw
            case rel => exact ⟨k + 1, by omega, by go_num, Hs, hbl.alloc hbl.size _⟩
            case measure => simp [intOf]; omega
      · obtain rfl : k = len := by omega
        have Hs : Hid (swapL r l = r) := Lib.hid (by rw [hs.out, List.drop_of_length_le (by rw [Hlen.out]; exact Nat.le_refl _)]; rfl)
        clear hs
        go_wp2
        go_ret2
        exact ⟨ret_iii (by simp [Hs.out]) (by simp), hbl⟩

theorem pairs_new (w : World) (b : Nat) (l : List (Int × Int)) (T : TypeId) (hb : b = w.heap.size) (cs : Array Value) (h : ∀ i, i < l.length → cs[i * 2]? = some (.int .i64 (l.getD i (0, 0)).1) ∧ cs[i * 2 + 1]? = some (.int .i64 (l.getD i (0, 0)).2)) : PairsAt (w.alloc (.cells cs T)) b l := by
  subst hb
  intro i hi
  have e : (w.alloc (.cells cs T)).heap[w.heap.size]? = some (.cells cs T) := by
    show (w.heap.push _)[w.heap.size]? = _
    simp
  simp only [World.cell?, e]
  simpa using h i hi

theorem turn_pairs (w : World) (T : TypeId) : PairsAt (w.alloc (.cells #[.int .i64 3, .int .i64 5, .int .i64 4, .int .i64 6] T)) w.heap.size [(3, 5), (4, 6)] :=
  pairs_new w _ _ T rfl _ (fun i hi => by
    match i, hi with
    | 0, _ => simp
    | 1, _ => simp)

theorem turn_swap (r : Int) : (if relB r = true then swapL r [(3, 5), (4, 6)] else 0) = turnT r := by
  rcases rel_cases r with rfl | rfl | rfl | rfl | rfl | rfl | h
  all_goals first | decide | (have e : turnT r = 0 := (by unfold turnT; rw [if_neg (by omega), if_neg (by omega), if_neg (by omega), if_neg (by omega), if_neg (by omega), if_neg (by omega)]); rw [relB_false h, e]; rfl)

theorem turned_any (r : Int) (w : World) :
    Calls Tryz.prog 161 #[.int .i64 r] w fun e w' => e = .returned (.tuple #[.int .i64 (turnT r), .int .i64 (relE r)]) ∧ Below w.heap.size w w' := by
  have HC : Hid (∀ (w : World) (T : TypeId), Calls Tryz.prog 171 #[.int .i64 r, .slice (some ⟨w.heap.size, 0, none⟩) 2 2] (w.alloc (.cells #[.int .i64 3, .int .i64 5, .int .i64 4, .int .i64 6] T)) fun e w' => e = .returned (.tuple #[.int .i64 (turnT r), .int .i64 (relE r)]) ∧ Below w.heap.size w w') := Lib.hid fun w T => by
    have h := swap_any r w.heap.size 2 [(3, 5), (4, 6)] (w.alloc (.cells #[.int .i64 3, .int .i64 5, .int .i64 4, .int .i64 6] T)) (by simp) (by decide) (turn_pairs w T)
    rw [turn_swap] at h
    exact h.mono fun e w' ⟨he, hb⟩ => ⟨he, ((Below.refl _ _).alloc (Nat.le_refl _) _).trans (hb.mono (by simp))⟩
  generalize turnT r = x at *
  generalize relE r = y at *
  go_enter Tryz.func161, Tryz.ntmps161
  go_wp2_with fail
  refine (HC.out _ _).mono ?_
  rintro e w1 ⟨rfl, hb⟩
  go_wp2_with fail
  go_ret2
  exact ⟨rfl, hb⟩

theorem ret_str {a b : ByteArray} (h : a = b) : Ending.returned (.string a) = .returned (.string b) := by rw [h]

set_option maxHeartbeats 800000 in
theorem lsign_any (r : Int) (w : World) :
    Calls Tryz.prog 170 #[.int .i64 r] w fun e w' => e = .returned (.string (signS r)) ∧ w = w' := by
  go_enter Tryz.func170, Tryz.ntmps170
  go_wp2
  all_goals
    go_ret
    exact ⟨ret_str (by simp_all [signS]), rfl⟩

end Go.Proofs.YtjaclmoobfeikaaGreatDoor
