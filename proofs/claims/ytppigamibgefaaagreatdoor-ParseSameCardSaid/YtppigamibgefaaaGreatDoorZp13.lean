/- tree's put. A text between quotes: the contract of lex's quoted. tree's walk: what goes through a tree. -/
import Derived.Test.YtppigamibgefaaaGreatDoorZp12
import Derived.Deep.DeepCutAuto
import Derived.OneCell
namespace Go.Proofs.YtppigamibgefaaaGreatDoor
open Go.RowKit

theorem Tr.bal_n {K R : Type} (l : Tr K R) (k : K) (v : R) (r : Tr K R) : (Tr.bal l k v r).n = l.n + 1 + r.n := by
  rw [Tr.n_toL, Tr.bal_toL, Tr.n_toL l, Tr.n_toL r, List.length_append, List.length_cons]
  omega
theorem Tr.put_n {K R : Type} (c : K → K → Int) (k : K) (v : R) : ∀ t : Tr K R, (Tr.put c k v t).n ≤ t.n + 1
  | .nil => by simp [Tr.put, Tr.n]
  | .node l k' v' r => by
    have h1 := Tr.put_n c k v l
    have h2 := Tr.put_n c k v r
    simp only [Tr.put]
    split
    · rw [Tr.bal_n]; simp only [Tr.n]; omega
    · split
      · rw [Tr.bal_n]; simp only [Tr.n]; omega
      · simp only [Tr.n]; omega
abbrev ordR := rowsOrd
end Go.Proofs.YtppigamibgefaaaGreatDoor
namespace Go.Proofs.YtppigamibgefaaaGreatDoor
open Go.RowKit

theorem qN_nil : qN [] = 0 := rfl
theorem qN_ne (c : UInt8) (r : List UInt8) (h : c ≠ 39) : qN (c :: r) = 1 + qN r := by
  unfold qN
  cases r with
  | nil => simp [qC, h]
  | cons d t =>
    rw [qC, if_neg h]
    cases qC (d :: t) with
    | none => simp; omega
    | some k => simp; omega
theorem qN_two (r : List UInt8) : qN (39 :: 39 :: r) = 2 + qN r := by
  unfold qN
  rw [qC, if_pos rfl, if_pos rfl]
  cases qC r with
  | none => simp; omega
  | some k => simp; omega
theorem qN_end (r : List UInt8) (h : Lib.hasPrefix (39 :: r) [39, 39] = false) : qN (39 :: r) = 1 := by
  unfold qN
  cases r with
  | nil => simp [qC]
  | cons d t =>
    have hd : d ≠ 39 := fun e => by subst e; simp [Lib.hasPrefix] at h
    rw [qC, if_pos rfl, if_neg hd]; rfl
theorem drop_at (s : ByteArray) (k : Nat) (h : k < s.size) : s.data.toList.drop k = s[k] :: s.data.toList.drop (k + 1) := by
  rw [List.drop_eq_getElem_cons (by rw [Array.length_toList]; exact h)]
  rfl
theorem pre_two {l : List UInt8} (h : Lib.hasPrefix l [39, 39] = true) : ∃ r, l = 39 :: 39 :: r := by
  match l, h with
  | [], h => simp [Lib.hasPrefix] at h
  | [a], h => simp [Lib.hasPrefix] at h
  | a :: b :: r, h =>
    simp [Lib.hasPrefix, List.isPrefixOf] at h
    obtain ⟨rfl, rfl⟩ := h
    exact ⟨r, rfl⟩
theorem drop_more {l : List UInt8} {k : Nat} {a b : UInt8} {r : List UInt8} (h : l.drop k = a :: b :: r) : l.drop (k + 2) = r ∧ k + 2 ≤ l.length := by
  constructor
  · have : l.drop (k + 2) = (l.drop k).drop 2 := by rw [List.drop_drop]
    rw [this, h]; rfl
  · have := congrArg List.length h
    rw [List.length_drop] at this
    simp at this; omega
theorem byte_ne {c : UInt8} {n : Nat} (h : c ≠ UInt8.ofNat n) (hn : n < 256) : ¬ (c.toNat : Int) = n := fun e => h (UInt8.toNat_inj.1 (by rw [UInt8.toNat_ofNat']; omega))
set_option maxHeartbeats 800000 in
theorem quoted_any (s : ByteArray) (w : World) (h1 : 1 ≤ s.size) (hs : s.size ≤ 1510) :
    Calls Tryz.prog 159 #[.string s] w fun e w' => e = .returned (.int .i64 ((1 + qN (s.data.toList.drop 1) : Nat) : Int)) ∧ w = w' := by
  have HE : Hid (1 + qN (s.data.toList.drop 1) = 1 + qN (s.data.toList.drop 1)) := Lib.hid rfl
  generalize hres : 1 + qN (s.data.toList.drop 1) = res at *
  have HR := Lib.hid hres
  clear hres HE
  go_enter Tryz.func159, Tryz.ntmps159
  go_wp2_with fail
  go_loop [3] (fun i => ∃ (k : Nat), i = .int .i64 k ∧ 1 ≤ k ∧ k ≤ s.size ∧ Hid (res = k + qN (s.data.toList.drop k))) (fun i => s.size - (intOf i).toNat)
  case atStart => exact ⟨1, rfl, by omega, h1, Lib.hid HR.out.symm⟩
  case round =>
    obtain ⟨k, rfl, hk1, hk, U⟩ := hrel
    by_cases hlt : k < s.size
    · have i0 : (0 : Int) ≤ k := by omega
      have i1 : (k : Int) < s.size := by omega
      have hd := drop_at s k hlt
      by_cases h39 : s[k] = 39
      · have hc : (s[k].toNat : Int) = 39 := by rw [h39]; decide
        have tb : ((s[k].toNat : Int) != 39) = false := by rw [bne_eq_false_iff_eq]; exact hc
        rw [h39] at hd
        have HP := Lib.hid (prefix_any (s.extract k s.size) ⟨#[39, 39]⟩ w)
        cases hp : Lib.hasPrefix (s.data.toList.drop k) [39, 39]
        · have hq : res = k + 1 := by rw [U.out, hd, qN_end _ (by rw [← hd]; exact hp)]
          have HP2 : Hid (Calls Tryz.prog 44 #[.string (s.extract k s.size), .string ⟨#[39, 39]⟩] w fun e w' => e = .returned (.bool false) ∧ w = w') := Lib.hid (HP.out.mono fun _ _ ⟨he, hw⟩ => ⟨by rw [he, extract_to]; exact congrArg (fun b => Ending.returned (.bool b)) hp, hw⟩)
          have HQ := Lib.hid hq
          clear hq hp hd h39 hc HP
          go_wp2_with fail
          refine (HP2.out).mono ?_
          rintro e w1 ⟨rfl, rfl⟩
          go_wp2_with fail
          go_ret
          exact ⟨(congrArg (fun n : Nat => Ending.returned (.int .i64 (n : Int))) HQ.out).symm, rfl⟩
        · obtain ⟨r, hr1⟩ := pre_two hp
          obtain ⟨hr2, hr3⟩ := drop_more hr1
          have hq : res = (k + 2) + qN (s.data.toList.drop (k + 2)) := by rw [U.out, hr1, qN_two, hr2]; omega
          have hk2 : k + 2 ≤ s.size := by rw [Array.length_toList] at hr3; exact hr3
          have HP2 : Hid (Calls Tryz.prog 44 #[.string (s.extract k s.size), .string ⟨#[39, 39]⟩] w fun e w' => e = .returned (.bool true) ∧ w = w') := Lib.hid (HP.out.mono fun _ _ ⟨he, hw⟩ => ⟨by rw [he, extract_to]; exact congrArg (fun b => Ending.returned (.bool b)) hp, hw⟩)
          have HQ := Lib.hid hq
          clear hq hp hd h39 hc HP hr1 hr2 hr3
          go_wp2_with fail
          refine (HP2.out).mono ?_
          rintro e w1 ⟨rfl, rfl⟩
          go_wp2_with fail
          go_round
          case rel => exact ⟨k + 2, by go_num, by omega, hk2, HQ⟩
          case measure => simp [intOf]; omega
      · have hc : ¬ (s[k].toNat : Int) = 39 := byte_ne (n := 39) h39 (by omega)
        have tb : ((s[k].toNat : Int) != 39) = true := by rw [bne_iff_ne]; exact hc
        have hq : res = (k + 1) + qN (s.data.toList.drop (k + 1)) := by rw [U.out, hd, qN_ne _ _ h39]; omega
        have HQ := Lib.hid hq
        clear hq hd h39 hc
        go_wp2_with fail
        go_round
        case rel => exact ⟨k + 1, by go_num, by omega, by omega, HQ⟩
        case measure => simp [intOf]; omega
    · obtain rfl : k = s.size := by omega
      have hq : res = s.size := by rw [U.out, List.drop_of_length_le (by rw [Array.length_toList]; exact Nat.le_refl _), qN_nil]; rfl
      have HQ := Lib.hid hq
      clear hq
      go_wp2_with fail
      go_ret
      exact ⟨(congrArg (fun n : Nat => Ending.returned (.int .i64 (n : Int))) HQ.out).symm, rfl⟩
end Go.Proofs.YtppigamibgefaaaGreatDoor
namespace Go.Proofs.YtppigamibgefaaaGreatDoor
open Go.RowKit

/-- Nothing elder has turned but in blocks of M. -/
structure Only (M : Nat → Prop) (w w' : World) : Prop where
  os : w'.os = w.os
  tape : w'.tape = w.tape
  output : w'.output = w.output
  size : w.heap.size ≤ w'.heap.size
  block : ∀ b, b < w.heap.size → ¬ M b → w'.heap[b]? = w.heap[b]?
theorem Only.refl (M : Nat → Prop) (w : World) : Only M w w := ⟨rfl, rfl, rfl, Nat.le_refl _, fun _ _ _ => rfl⟩
theorem Only.drew {M : Nat → Prop} {w w' : World} (h : Only M w w') : Only M w w'.drew := ⟨h.os, h.tape, h.output, h.size, h.block⟩
theorem Only.drewN {M : Nat → Prop} {w w' : World} (h : Only M w w') (n : Nat) : Only M w (w'.drewN n) := ⟨h.os, h.tape, h.output, h.size, h.block⟩
theorem Only.grown {M : Nat → Prop} {w w1 w2 : World} {row : Option Nat} (h : Only M w w1) (hg : w1.grownBy w2 row) (hr : ∀ j, row = some j → M j ∨ w.heap.size ≤ j) : Only M w w2 :=
  ⟨hg.os.trans h.os, hg.tape.trans h.tape, hg.output.trans h.output, Nat.le_trans h.size hg.size, fun b hb hM => (hg.block b (Nat.lt_of_lt_of_le hb h.size) (fun e => by
    rcases hr b e.symm with h1 | h1
    · exact hM h1
    · omega)).trans (h.block b hb hM)⟩
theorem Only.set {M : Nat → Prop} {w w1 : World} (h : Only M w w1) {g : Nat} (hg : M g ∨ w.heap.size ≤ g) (i : Nat) (u : Value) : Only M w (w1.setCell ⟨g, i, none⟩ u) :=
  ⟨h.os, h.tape, h.output, by simp [World.setCell]; exact h.size, fun b hb hM => (Below.heap_setCell _ _ _ _ (fun e => by
    have e' : b = g := e
    subst e'
    rcases hg with h1 | h1
    · exact hM h1
    · omega)).trans (h.block b hb hM)⟩
theorem Only.trans {M : Nat → Prop} {w w1 w2 : World} (h : Only M w w1) {M' : Nat → Prop} (k : Only M' w1 w2) (hM : ∀ b, M' b → M b ∨ w.heap.size ≤ b) : Only M w w2 :=
  ⟨k.os.trans h.os, k.tape.trans h.tape, k.output.trans h.output, Nat.le_trans h.size k.size, fun b hb hb' => (k.block b (Nat.lt_of_lt_of_le hb h.size) (fun e => by
    rcases hM b e with h1 | h1
    · exact hb' h1
    · omega)).trans (h.block b hb hb')⟩
theorem Only.stays {M S : Nat → Prop} {w w' : World} (h : Only M w w') (hS : ∀ b, S b → b < w.heap.size → ¬ M b) : Stays S w w' := ⟨h.size, fun b hb hlt => h.block b hlt (hS b hb hlt)⟩
theorem Only.cell {M : Nat → Prop} {w w' : World} (h : Only M w w') {b o : Nat} {v : Value} (hc : w.cell? ⟨b, o, none⟩ = some v) (hb : ¬ M b) : w'.cell? ⟨b, o, none⟩ = some v :=
  (World.cell?_of_block (a := ⟨b, o, none⟩) (h.block b (World.block_lt_of_cell? w ⟨b, o, none⟩ hc) hb)).trans hc
theorem Only.below {M : Nat → Prop} {w w' : World} {B : Nat} (h : Only M w w') (hB : B ≤ w.heap.size) (hM : ∀ b, M b → B ≤ b) : Below B w w' := ⟨h.os, h.tape, h.output, h.size, fun b hb => h.block b (by omega) (fun e => by have := hM b e; omega)⟩

/-- Keys from one on. -/
def fromL (key : List Vl) (l : List (List Vl × List Vl)) : List (List Vl × List Vl) := l.filter fun x => !decide (rowsOrd x.1 key < 0)
/-- What is still to come of a stack's tree: its own pair, and what is on its right. -/
def pendT (key : List Vl) : Tre → List (List Vl × List Vl)
  | .nil => []
  | .node _ k v r => (k, v) :: fromL key r.toL
/-- What is still to come of a stack. -/
def remS (key : List Vl) (xs : List (Ptr × Tre)) : List (List Vl × List Vl) := xs.reverse.flatMap fun x => pendT key x.2
theorem remS_snoc (key : List Vl) (xs : List (Ptr × Tre)) (x : Ptr × Tre) : remS key (xs ++ [x]) = pendT key x.2 ++ remS key xs := by
  simp [remS]
theorem fromL_app (key : List Vl) (a b : List (List Vl × List Vl)) : fromL key (a ++ b) = fromL key a ++ fromL key b := by simp [fromL]
theorem fromL_none {key : List Vl} {l : List (List Vl × List Vl)} (h : ∀ x ∈ l, rowsOrd x.1 key < 0) : fromL key l = [] := by
  unfold fromL
  rw [List.filter_eq_nil_iff]
  intro x hx
  simp [h x hx]
/-- Where a node is skipped. -/
theorem skip_eq (hc : Tr.IsOrd rowsOrd) {l r : Tre} {k v key : List Vl} (hs : Tr.Sorted rowsOrd (Tr.toL (.node l k v r))) (hk : rowsOrd k key < 0) : fromL key (Tr.toL (.node l k v r)) = fromL key r.toL := by
  simp only [Tr.toL] at hs ⊢
  obtain ⟨_, _, s3, _, _⟩ := Tr.sorted_mid hs
  rw [fromL_app, fromL_none (l := l.toL) (fun x hx => hc.trans _ _ _ (s3 x hx) hk)]
  simp [fromL, hk]
/-- Where a node is pushed. -/
theorem push_eq {l r : Tre} {k v key : List Vl} (hk : ¬ rowsOrd k key < 0) (xs : List (Ptr × Tre)) (p : Ptr) : fromL key (Tr.toL (.node l k v r)) ++ remS key xs = fromL key l.toL ++ remS key (xs ++ [(p, .node l k v r)]) := by
  rw [remS_snoc]
  simp [Tr.toL, fromL_app, pendT]
  simp [fromL, hk]
theorem sorted_l {l r : Tre} {k v : List Vl} (hs : Tr.Sorted rowsOrd (Tr.toL (.node l k v r))) : Tr.Sorted rowsOrd l.toL := by
  simp only [Tr.toL] at hs; exact (Tr.sorted_mid hs).1
theorem sorted_r {l r : Tre} {k v : List Vl} (hs : Tr.Sorted rowsOrd (Tr.toL (.node l k v r))) : Tr.Sorted rowsOrd r.toL := by
  simp only [Tr.toL] at hs; exact (Tr.sorted_mid hs).2.1

/-- The size that a tree's memory tells. -/
def szOf (p : Value) (w : World) : Nat :=
  match p with
  | .pointer (some a) => match w.cell? ⟨a.block, 5, none⟩ with
    | some (.int _ n) => n.toNat
    | _ => 0
  | _ => 0
theorem szOf_eq {S : Nat → Prop} {w : World} {t : Tre} {p : Ptr} (h : TrAt S w t p) : szOf (.pointer p) w = t.n := by
  cases t with
  | nil => obtain rfl : p = none := h; rfl
  | node l k v r =>
    obtain ⟨b, _, _, _, _, _, _, rfl, _, _, ⟨_, _, _, _, _, c5⟩, _⟩ := h
    simp only [szOf, c5]
    omega
end Go.Proofs.YtppigamibgefaaaGreatDoor
