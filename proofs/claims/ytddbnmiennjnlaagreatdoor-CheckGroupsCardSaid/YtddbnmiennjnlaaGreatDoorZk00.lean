/- Contract of the document's function Good: it answers goodB of the value's three cells, and what was in memory stays. No condition. Plain facts on the signs of 64-bit numbers put together bit by bit, and on when a sum, a difference or a product of two goes round. No program is named. Trees in balance, as mathematics: what puts and deletes do to height, order and list. -/
import Derived.Test.YtddbnmiennjnlaaGreatDoorRows
import Derived.WalkKit
import Derived.WalkSpells
import Derived.WalkLawsBesides
namespace Go.Proofs.YtddbnmiennjnlaaGreatDoor
open Go.RowKit

/-- Is the value good? -/
def goodB (k n : Int) (s : ByteArray) : Bool :=
  if k = 0 then n == 0 && s.toList.isEmpty
  else if k = 1 then (n == 0 || n == 1) && s.toList.isEmpty
  else if k = 2 then s.toList.isEmpty
  else if k = 3 then n == 0 && decide (s.size ≤ 60)
  else false

theorem ret_bool {a b : Bool} (h : a = b) : Ending.returned (.bool a) = .returned (.bool b) := by rw [h]
theorem ret_int {k : IntKind} {a b : Int} (h : a = b) : Ending.returned (.int k a) = .returned (.int k b) := by rw [h]

end Go.Proofs.YtddbnmiennjnlaaGreatDoor
namespace Go.Proofs.YtddbnmiennjnlaaGreatDoor
open Go.RowKit

/-- Is it an int? -/
def inI (n : Int) : Bool := decide (-9223372036854775808 ≤ n) && decide (n ≤ 9223372036854775807)
theorem inI_iff {n : Int} : inI n = true ↔ -9223372036854775808 ≤ n ∧ n ≤ 9223372036854775807 := by simp [inI]

theorem wrap_nonneg (v : BitVec 64) : (0 ≤ IntKind.i64.wrap v.toNat) ↔ v.msb = false := by
  rw [IntKind.wrap_i64, BitVec.msb_eq_decide]
  have := v.isLt
  simp
  omega
theorem ofInt_wrap (v : BitVec 64) : BitVec.ofInt 64 (IntKind.i64.wrap v.toNat) = v := by
  apply BitVec.eq_of_toNat_eq
  rw [BitVec.toNat_ofInt, IntKind.wrap_i64]
  have := v.isLt
  omega
theorem msb_ofInt (x : Int) (h : inI x = true) : (BitVec.ofInt 64 x).msb = decide (x < 0) := by
  rw [inI_iff] at h
  rw [BitVec.msb_eq_decide, BitVec.toNat_ofInt, Bool.eq_iff_iff]
  simp
  omega
theorem xorxor_sign (x y m n : Int) (hx : inI x = true) (hy : inI y = true) (hm : inI m = true) (hn : inI n = true) :
    (0 ≤ bits .and .i64 (bits .xor .i64 x m) (bits .xor .i64 y n)) ↔ ¬ ((x < 0 ↔ ¬ m < 0) ∧ (y < 0 ↔ ¬ n < 0)) := by
  have e : bits .and .i64 (bits .xor .i64 x m) (bits .xor .i64 y n) = IntKind.i64.wrap ((BitVec.ofInt 64 x ^^^ BitVec.ofInt 64 m) &&& (BitVec.ofInt 64 y ^^^ BitVec.ofInt 64 n)).toNat := by
    simp only [bits, IntKind.bits, ofInt_wrap]
    rfl
  rw [e, wrap_nonneg, BitVec.msb_and, BitVec.msb_xor, BitVec.msb_xor, msb_ofInt x hx, msb_ofInt y hy, msb_ofInt m hm, msb_ofInt n hn]
  by_cases h1 : x < 0 <;> by_cases h2 : y < 0 <;> by_cases h3 : m < 0 <;> by_cases h4 : n < 0 <;> simp [h1, h2, h3, h4]
theorem inI_wrap (n : Int) : inI (wrap64 n) = true := by rw [inI_iff]; unfold wrap64; omega
/-- A sum fits just if it didn't go round. -/
theorem plus_fits (x y : Int) (hx : inI x = true) (hy : inI y = true) :
    decide (0 ≤ bits .and .i64 (bits .xor .i64 x (wrap64 (x + y))) (bits .xor .i64 y (wrap64 (x + y)))) = inI (x + y) := by
  rw [Bool.eq_iff_iff, decide_eq_true_iff, xorxor_sign x y _ _ hx hy (inI_wrap _) (inI_wrap _), inI_iff]
  rw [inI_iff] at hx hy
  unfold wrap64
  omega
theorem minus_fits (x y : Int) (hx : inI x = true) (hy : inI y = true) :
    decide (0 ≤ bits .and .i64 (bits .xor .i64 x y) (bits .xor .i64 x (wrap64 (x - y)))) = inI (x - y) := by
  rw [Bool.eq_iff_iff, decide_eq_true_iff, xorxor_sign x x _ _ hx hx hy (inI_wrap _), inI_iff]
  rw [inI_iff] at hx hy
  unfold wrap64
  omega
theorem wrap64_of {n : Int} (h : inI n = true) : wrap64 n = n := by
  rw [inI_iff] at h
  unfold wrap64
  omega
theorem tdiv_in {n y : Int} (hn : inI n = true) (h0 : y ≠ 0) (h1 : y ≠ -1) : inI (n.tdiv y) = true := by
  rw [inI_iff] at hn ⊢
  have h : (n.tdiv y).natAbs = n.natAbs / y.natAbs := Int.natAbs_tdiv n y
  by_cases h4 : y = 1
  · subst h4; rw [Int.tdiv_one]; exact hn
  · have h5 : n.natAbs / y.natAbs ≤ n.natAbs / 2 := Nat.div_le_div_left (by omega) (by omega)
    generalize n.tdiv y = q at *
    generalize n.natAbs / y.natAbs = d at *
    omega
/-- A product fits just if division leads back; by 0 and by -1 aside. -/
theorem times_fits (x y : Int) (hy : inI y = true) (h0 : y ≠ 0) (h1 : y ≠ -1) :
    (wrap64 ((wrap64 (x * y)).tdiv y) == x) = inI (x * y) := by
  rw [wrap64_of (tdiv_in (inI_wrap _) h0 h1), Bool.eq_iff_iff, beq_iff_eq]
  constructor
  · intro h
    have hd := Int.mul_tdiv_add_tmod (wrap64 (x * y)) y
    rw [h, Int.mul_comm y x] at hd
    have hr := Int.natAbs_tmod (wrap64 (x * y)) y
    have hlt : (wrap64 (x * y)).natAbs % y.natAbs < y.natAbs := Nat.mod_lt _ (by omega)
    rw [inI_iff] at hy ⊢
    have hw : ∃ q : Int, wrap64 (x * y) = x * y + 18446744073709551616 * q := by
      unfold wrap64
      exact ⟨-((x * y + 9223372036854775808) / 18446744073709551616), by omega⟩
    obtain ⟨q, hq⟩ := hw
    have hi := inI_iff.1 (inI_wrap (x * y))
    generalize x * y = p at *
    generalize wrap64 p = n at *
    generalize n.tmod y = r at *
    omega
  · intro h
    rw [wrap64_of h, Int.mul_tdiv_cancel _ h0]
end Go.Proofs.YtddbnmiennjnlaaGreatDoor
namespace Go.Proofs.YtddbnmiennjnlaaGreatDoor

inductive Tr (K R : Type) where
  | nil : Tr K R
  | node : Tr K R → K → R → Tr K R → Tr K R
namespace Tr
variable {K R : Type}
def h : Tr K R → Nat
  | nil => 0
  | node l _ _ r => max (h l) (h r) + 1
def n : Tr K R → Nat
  | nil => 0
  | node l _ _ r => n l + 1 + n r
def toL : Tr K R → List (K × R)
  | nil => []
  | node l k v r => toL l ++ (k, v) :: toL r
def rotR (l : Tr K R) (k : K) (v : R) (r : Tr K R) : Tr K R :=
  match l with
  | nil => node nil k v r
  | node ll lk lv lr =>
    if h lr ≤ h ll then node ll lk lv (node lr k v r) else
    match lr with
    | nil => node (node ll lk lv nil) k v r
    | node a ik iv b => node (node ll lk lv a) ik iv (node b k v r)
def rotL (l : Tr K R) (k : K) (v : R) (r : Tr K R) : Tr K R :=
  match r with
  | nil => node l k v nil
  | node rl rk rv rr =>
    if h rl ≤ h rr then node (node l k v rl) rk rv rr else
    match rl with
    | nil => node l k v (node nil rk rv rr)
    | node a ik iv b => node (node l k v a) ik iv (node b rk rv rr)
def bal (l : Tr K R) (k : K) (v : R) (r : Tr K R) : Tr K R :=
  if h l = h r + 2 then rotR l k v r else if h r = h l + 2 then rotL l k v r else node l k v r
theorem rotR_toL (l : Tr K R) (k v r) : toL (rotR l k v r) = toL l ++ (k, v) :: toL r := by
  unfold rotR
  cases l with
  | nil => rfl
  | node ll lk lv lr =>
    simp only
    split
    · simp [toL]
    · cases lr with
      | nil => simp [toL]
      | node a ik iv b => simp [toL]
theorem rotL_toL (l : Tr K R) (k v r) : toL (rotL l k v r) = toL l ++ (k, v) :: toL r := by
  unfold rotL
  cases r with
  | nil => rfl
  | node rl rk rv rr =>
    simp only
    split
    · simp [toL]
    · cases rl with
      | nil => simp [toL]
      | node a ik iv b => simp [toL]
theorem bal_toL (l : Tr K R) (k v r) : toL (bal l k v r) = toL l ++ (k, v) :: toL r := by
  unfold bal
  split
  · exact rotR_toL ..
  · split
    · exact rotL_toL ..
    · rfl
theorem n_toL : ∀ t : Tr K R, n t = (toL t).length
  | nil => rfl
  | node l k v r => by simp [n, toL, n_toL l, n_toL r]; omega
theorem h_le : ∀ t : Tr K R, h t ≤ n t
  | nil => Nat.le_refl _
  | node l k v r => by have := h_le l; have := h_le r; simp only [h, n]; omega
theorem n_zero {t : Tr K R} (h : n t = 0) : t = nil := by
  cases t with
  | nil => rfl
  | node l k v r => simp [n] at h
/-- In balance. -/
def ok : Tr K R → Prop
  | nil => True
  | node l _ _ r => ok l ∧ ok r ∧ h l ≤ h r + 1 ∧ h r ≤ h l + 1
theorem bal_ok {l r : Tr K R} (k : K) (v : R) (hl : ok l) (hr : ok r) (h1 : h l ≤ h r + 2) (h2 : h r ≤ h l + 2) :
    ok (bal l k v r) ∧ max (h l) (h r) ≤ h (bal l k v r) ∧ h (bal l k v r) ≤ max (h l) (h r) + 1 ∧ (h l ≤ h r + 1 → h r ≤ h l + 1 → h (bal l k v r) = max (h l) (h r) + 1) := by
  unfold bal
  split
  · next e =>
    cases l with
    | nil => simp [h] at e
    | node ll lk lv lr =>
      simp only [ok] at hl
      obtain ⟨a1, a2, a3, a4⟩ := hl
      simp only [rotR]
      simp only [h] at e h1 h2 ⊢
      split
      · simp only [ok, h, a1, a2, hr, true_and]; omega
      · cases lr with
        | nil => simp only [h] at *; omega
        | node a ik iv b =>
          simp only [ok] at a2
          obtain ⟨b1, b2, b3, b4⟩ := a2
          simp only [h] at *
          simp only [ok, h, a1, b1, b2, hr, true_and]; omega
  · next e1 =>
    split
    · next e =>
      cases r with
      | nil => simp [h] at e
      | node rl rk rv rr =>
        simp only [ok] at hr
        obtain ⟨a1, a2, a3, a4⟩ := hr
        simp only [rotL]
        simp only [h] at e h1 h2 e1 ⊢
        split
        · simp only [ok, h, a1, a2, hl, true_and]; omega
        · cases rl with
          | nil => simp only [h] at *; omega
          | node a ik iv b =>
            simp only [ok] at a1
            obtain ⟨b1, b2, b3, b4⟩ := a1
            simp only [h] at *
            simp only [ok, h, a2, b1, b2, hl, true_and]; omega
    · next e =>
      refine ⟨⟨hl, hr, by omega, by omega⟩, ?_, ?_, fun _ _ => rfl⟩
      · simp only [h]; omega
      · simp only [h]; omega
variable (c : K → K → Int)
def put (k : K) (v : R) : Tr K R → Tr K R
  | nil => node nil k v nil
  | node l k' v' r => if c k k' < 0 then bal (put k v l) k' v' r else if 0 < c k k' then bal l k' v' (put k v r) else node l k v r
/-- The leftmost pair. -/
def fst : Tr K R → Option (K × R)
  | nil => none
  | node l k v _ => match fst l with | none => some (k, v) | some x => some x
def del (k : K) : Tr K R → Tr K R
  | nil => nil
  | node l k' v' r => if c k k' < 0 then bal (del k l) k' v' r else if 0 < c k k' then bal l k' v' (del k r) else
    match r.fst with
    | none => l
    | some (k2, v2) => bal l k2 v2 (del k2 r)
theorem put_ok (k : K) (v : R) : ∀ t : Tr K R, ok t → ok (put c k v t) ∧ h t ≤ h (put c k v t) ∧ h (put c k v t) ≤ h t + 1
  | nil => fun _ => by simp [put, ok, h]
  | node l k' v' r => fun ⟨a1, a2, a3, a4⟩ => by
    simp only [put]
    split
    · have ih := put_ok k v l a1
      have b := bal_ok k' v' ih.1 a2 (by omega) (by omega)
      refine ⟨b.1, ?_⟩
      simp only [h]
      have := b.2
      omega
    · split
      · have ih := put_ok k v r a2
        have b := bal_ok k' v' a1 ih.1 (by omega) (by omega)
        refine ⟨b.1, ?_⟩
        simp only [h]
        have := b.2
        omega
      · exact ⟨⟨a1, a2, a3, a4⟩, by simp [h]⟩
theorem del_ok : ∀ (t : Tr K R) (k : K), ok t → ok (del c k t) ∧ h t ≤ h (del c k t) + 1 ∧ h (del c k t) ≤ h t
  | nil, k => fun _ => by simp [del, ok, h]
  | node l k' v' r, k => fun ⟨a1, a2, a3, a4⟩ => by
    simp only [del]
    split
    · have ih := del_ok l k a1
      have b := bal_ok k' v' ih.1 a2 (by omega) (by omega)
      refine ⟨b.1, ?_⟩
      simp only [h]
      have := b.2
      omega
    · split
      · have ih := del_ok r k a2
        have b := bal_ok k' v' a1 ih.1 (by omega) (by omega)
        refine ⟨b.1, ?_⟩
        simp only [h]
        have := b.2
        omega
      · cases hf : fst r with
        | none =>
          have : r = nil := by
            cases r with
            | nil => rfl
            | node rl rk rv rr => simp only [fst] at hf; split at hf <;> cases hf
          subst this
          simp only [h] at *
          exact ⟨a1, by omega, by omega⟩
        | some x =>
          obtain ⟨k2, v2⟩ := x
          have ih := del_ok r k2 a2
          have b := bal_ok k2 v2 a1 ih.1 (by omega) (by omega)
          refine ⟨b.1, ?_⟩
          simp only [h]
          have := b.2
          omega
structure IsOrd : Prop where
  zero : ∀ a b, c a b = 0 ↔ a = b
  turn : ∀ a b, c b a = - c a b
  trans : ∀ a b d, c a b < 0 → c b d < 0 → c a d < 0
def Sorted (l : List (K × R)) : Prop := l.Pairwise (fun x y => c x.1 y.1 < 0)
def delL (k : K) (l : List (K × R)) : List (K × R) := l.filter (fun x => !(c x.1 k == 0))
def ins (k : K) (v : R) : List (K × R) → List (K × R)
  | [] => [(k, v)]
  | x :: l => if c k x.1 < 0 then (k, v) :: x :: l else x :: ins k v l
def putL (k : K) (v : R) (l : List (K × R)) : List (K × R) := ins c k v (delL c k l)
variable {c}
theorem delL_none {k : K} {l : List (K × R)} (h : ∀ x ∈ l, c x.1 k ≠ 0) : delL c k l = l := by
  unfold delL
  rw [List.filter_eq_self]
  intro x hx
  simp [h x hx]
theorem ins_app {k : K} {v : R} {x : K × R} (hx : c k x.1 < 0) : ∀ (A B : List (K × R)), ins c k v (A ++ x :: B) = ins c k v A ++ x :: B
  | [], B => by simp [ins, hx]
  | a :: A, B => by
    simp only [List.cons_append, ins]
    split
    · rfl
    · rw [ins_app hx A B]; rfl
theorem ins_pass {k : K} {v : R} : ∀ (A B : List (K × R)), (∀ x ∈ A, ¬ c k x.1 < 0) → ins c k v (A ++ B) = A ++ ins c k v B
  | [], B, _ => rfl
  | a :: A, B, h => by
    simp only [List.cons_append, ins]
    rw [if_neg (h a (by simp)), ins_pass A B (fun x hx => h x (by simp [hx]))]
theorem sorted_mid {l1 l2 : List (K × R)} {x : K × R} (h : Sorted c (l1 ++ x :: l2)) : Sorted c l1 ∧ Sorted c l2 ∧ (∀ y ∈ l1, c y.1 x.1 < 0) ∧ (∀ y ∈ l2, c x.1 y.1 < 0) ∧ (∀ y ∈ l1, ∀ z ∈ l2, c y.1 z.1 < 0) := by
  unfold Sorted at *
  rw [List.pairwise_append, List.pairwise_cons] at h
  exact ⟨h.1, h.2.1.2, fun y hy => h.2.2 y hy x (by simp), h.2.1.1, fun y hy z hz => h.2.2 y hy z (by simp [hz])⟩
theorem delL_app (k : K) (l1 l2 : List (K × R)) : delL c k (l1 ++ l2) = delL c k l1 ++ delL c k l2 := by simp [delL]
theorem delL_cons (k : K) (x : K × R) (l : List (K × R)) : delL c k (x :: l) = (if c x.1 k = 0 then [] else [x]) ++ delL c k l := by
  unfold delL
  rw [List.filter_cons]
  by_cases hx : c x.1 k = 0 <;> simp [hx]
theorem put_toL (hc : IsOrd c) (k : K) (v : R) : ∀ t : Tr K R, Sorted c t.toL → (put c k v t).toL = putL c k v t.toL
  | nil => fun _ => by simp [put, toL, putL, delL, ins]
  | node l k' v' r => fun hs => by
    simp only [toL] at hs
    obtain ⟨s1, s2, s3, s4, s5⟩ := sorted_mid hs
    have zz := hc.zero
    have tt := hc.turn
    simp only [put, toL]
    unfold putL
    rw [delL_app, delL_cons]
    split
    · next hk =>
      have e2 : delL c k r.toL = r.toL := delL_none (fun x hx e => by
        have := hc.trans k k' x.1 hk (s4 x hx)
        have := tt k x.1
        omega)
      rw [bal_toL, put_toL hc k v l s1, e2, if_neg (show ¬ c k' k = 0 by have := tt k k'; omega)]
      exact (ins_app (x := (k', v')) hk _ _).symm
    · split
      · next hk0 hk =>
        have hk' : c k' k < 0 := by have := tt k k'; omega
        have e1 : delL c k l.toL = l.toL := delL_none (fun x hx e => by
          have := hc.trans x.1 k' k (s3 x hx) hk'
          omega)
        rw [bal_toL, put_toL hc k v r s2, e1, if_neg (show ¬ c k' k = 0 by omega), ins_pass _ _ (fun x hx e => by
          have := hc.trans x.1 k' k (s3 x hx) hk'
          have := tt k x.1
          omega)]
        simp [ins, hk0, putL]
      · next hk0 hk =>
        have hz : c k k' = 0 := by omega
        obtain rfl := (zz k k').1 hz
        have e1 : delL c k l.toL = l.toL := delL_none (fun x hx e => by have := s3 x hx; simp only at this; omega)
        have e2 : delL c k r.toL = r.toL := delL_none (fun x hx e => by have := s4 x hx; simp only at this; have := tt k x.1; omega)
        rw [e1, e2, if_pos hz, ins_pass _ _ (fun x hx e => by have := s3 x hx; simp only at this; have := tt k x.1; omega)]
        congr 1
        cases hr : r.toL with
        | nil => simp [ins, toL, hr]
        | cons y m =>
          have := s4 y (by rw [hr]; simp)
          simp only at this
          simp [ins, this, toL, hr]
theorem fst_toL : ∀ t : Tr K R, t.fst = t.toL.head?
  | nil => rfl
  | node l k v r => by
    simp only [fst, toL, fst_toL l]
    cases l.toL <;> simp
theorem del_toL (hc : IsOrd c) : ∀ (t : Tr K R) (k : K), Sorted c t.toL → (del c k t).toL = delL c k t.toL
  | nil, k => fun _ => by simp [del, toL, delL]
  | node l k' v' r, k => fun hs => by
    simp only [toL] at hs
    obtain ⟨s1, s2, s3, s4, s5⟩ := sorted_mid hs
    have zz := hc.zero
    have tt := hc.turn
    simp only [del, toL]
    rw [delL_app, delL_cons]
    split
    · next hk =>
      have e2 : delL c k r.toL = r.toL := delL_none (fun x hx e => by
        have := hc.trans k k' x.1 hk (s4 x hx)
        have := tt k x.1
        omega)
      rw [bal_toL, del_toL hc l k s1, e2, if_neg (show ¬ c k' k = 0 by have := tt k k'; omega)]
      rfl
    · split
      · next hk0 hk =>
        have hk' : c k' k < 0 := by have := tt k k'; omega
        have e1 : delL c k l.toL = l.toL := delL_none (fun x hx e => by
          have := hc.trans x.1 k' k (s3 x hx) hk'
          omega)
        rw [bal_toL, del_toL hc r k s2, e1, if_neg (show ¬ c k' k = 0 by omega)]
        rfl
      · next hk0 hk =>
        have hz : c k k' = 0 := by omega
        obtain rfl := (zz k k').1 hz
        have e1 : delL c k l.toL = l.toL := delL_none (fun x hx e => by have := s3 x hx; simp only at this; omega)
        have e2 : delL c k r.toL = r.toL := delL_none (fun x hx e => by have := s4 x hx; simp only at this; have := tt k x.1; omega)
        rw [e1, e2, if_pos hz, fst_toL]
        cases hr : r.toL with
        | nil => simp
        | cons y m =>
          obtain ⟨k2, v2⟩ := y
          simp only [List.head?_cons]
          rw [bal_toL, del_toL hc r k2 s2, hr]
          rw [hr] at s2
          have sm := List.pairwise_cons.1 s2
          rw [delL_cons, if_pos ((zz _ _).2 rfl), delL_none (fun x hx e => by have := sm.1 x hx; simp only at this; have := tt k2 x.1; omega)]
          rfl
theorem delL_sorted {k : K} {l : List (K × R)} (h : Sorted c l) : Sorted c (delL c k l) := List.Pairwise.sublist (List.filter_sublist) h
theorem mem_ins {k : K} {v : R} {y : K × R} : ∀ l : List (K × R), y ∈ ins c k v l → y = (k, v) ∨ y ∈ l
  | [], h => by simpa [ins] using h
  | x :: l, h => by
    simp only [ins] at h
    split at h
    · simpa using h
    · rcases List.mem_cons.1 h with h | h
      · exact .inr (by simp [h])
      · rcases mem_ins l h with h | h
        · exact .inl h
        · exact .inr (by simp [h])
theorem ins_sorted (hc : IsOrd c) {k : K} {v : R} : ∀ l : List (K × R), Sorted c l → (∀ x ∈ l, c x.1 k ≠ 0) → Sorted c (ins c k v l)
  | [], _, _ => by simp [ins, Sorted]
  | x :: l, hs, hk => by
    have hs' := List.pairwise_cons.1 hs
    simp only [ins]
    split
    · next hx =>
      refine List.pairwise_cons.2 ⟨fun y hy => ?_, hs⟩
      rcases List.mem_cons.1 hy with rfl | hy
      · exact hx
      · exact hc.trans _ _ _ hx (hs'.1 y hy)
    · next hx =>
      refine List.pairwise_cons.2 ⟨fun y hy => ?_, ins_sorted hc l hs'.2 (fun z hz => hk z (by simp [hz]))⟩
      rcases mem_ins l hy with rfl | hy
      · have := hk x (by simp)
        have := hc.turn k x.1
        simp only
        omega
      · exact hs'.1 y hy
theorem putL_sorted (hc : IsOrd c) {k : K} {v : R} {l : List (K × R)} (h : Sorted c l) : Sorted c (putL c k v l) := by
  refine ins_sorted hc _ (delL_sorted h) (fun x hx => ?_)
  have := List.mem_filter.1 hx
  simpa using this.2
theorem ins_len {k : K} {v : R} : ∀ l : List (K × R), (ins c k v l).length = l.length + 1
  | [] => rfl
  | x :: l => by
    simp only [ins]
    split
    · rfl
    · simp [ins_len l]
theorem delL_len (k : K) (l : List (K × R)) : (delL c k l).length ≤ l.length := List.length_filter_le _ _
theorem putL_len (k : K) (v : R) (l : List (K × R)) : (putL c k v l).length ≤ l.length + 1 := by
  unfold putL
  rw [ins_len]
  have := delL_len (c := c) k l
  omega
end Tr
end Go.Proofs.YtddbnmiennjnlaaGreatDoor
