import Derived.Test.YtpklajadfbigcaaGreatDoorZt06
import Derived.Test.YtpklajadfbigcaaGreatDoorZt05
import Derived.Deep.RegionHeld3
import Derived.Deep.RegionWith
import Derived.Deep.QuietTactic
import Derived.BigQuiet
import Derived.WalkSmall
import Derived.StillTailTactics
import Derived.Deep.DeepCutAuto
import Derived.Lib.Hide
import Derived.Test.YtpklajadfbigcaaGreatDoorZt02
import Derived.Test.YtpklajadfbigcaaGreatDoorZt01
import Derived.Lib.SmallJoins
set_option linter.unusedSimpArgs false
set_option linter.unusedVariables false
namespace Go.Proofs.YtpklajadfbigcaaGreatDoor
namespace Wd
open Go.RowKit

theorem cmpInt_any (a b : Int) (w : World) :
    Calls Tryz.prog 47 #[.int .i64 a, .int .i64 b] w fun e w' => e = .returned (.int .i64 (cmpI a b)) ∧ w = w' := by
  go_enter Tryz.func47, Tryz.ntmps47
  go_wp2
  all_goals
    go_ret
    exact ⟨ret_int (by unfold cmpI; repeat' split
                       all_goals omega), rfl⟩
def orI (x y : Int) : Int := if x = 0 then y else x
theorem or_any (x y : Int) (g : Nat) (w : World) (c0 : w.cell? ⟨g, 0, none⟩ = some (.int .i64 x)) (c1 : w.cell? ⟨g, 1, none⟩ = some (.int .i64 y)) :
    Calls Tryz.prog 45 #[.slice (some ⟨g, 0, none⟩) 2 2] w fun e w' => e = .returned (.int .i64 (orI x y)) ∧ w = w' := by
  by_cases hx : x = 0
  · have hr : orI x y = y := by unfold orI; rw [if_pos hx]
    rw [hr]
    subst hx
    by_cases hy : y = 0
    · subst hy
      go_enter Tryz.func45, Tryz.ntmps45
      go_wp2_with fail
      go_loop [8] (fun i => ∃ k : Nat, k ≤ 2 ∧ i = .int .i64 k) (fun i => 2 - (intOf i).toNat)
      case atStart => exact ⟨0, by omega, rfl⟩
      case round =>
        obtain ⟨k, hk, rfl⟩ := hrel
        obtain rfl | rfl | rfl : k = 0 ∨ k = 1 ∨ k = 2 := by omega
        · go_wp2_with fail
          go_round
          case rel => exact ⟨1, by omega, rfl⟩
          case measure => simp [intOf]
        · go_wp2_with fail
          go_round
          case rel => exact ⟨2, by omega, rfl⟩
          case measure => simp [intOf]
        · go_wp2_with fail
          go_ret
          exact ⟨rfl, rfl⟩
    · have e1 : (y == 0) = false := by simpa using hy
      have e2 : (y != 0) = true := by simpa using hy
      have Hy := Lib.hid hy
      clear hy
      go_enter Tryz.func45, Tryz.ntmps45
      go_wp2_with fail
      go_loop [8] (fun i => ∃ k : Nat, k ≤ 1 ∧ i = .int .i64 k) (fun i => 2 - (intOf i).toNat)
      case atStart => exact ⟨0, by omega, rfl⟩
      case round =>
        obtain ⟨k, hk, rfl⟩ := hrel
        obtain rfl | rfl : k = 0 ∨ k = 1 := by omega
        · go_wp2_with fail
          go_round
          case rel => exact ⟨1, by omega, rfl⟩
          case measure => simp [intOf]
        · go_wp2_with fail
          go_ret
          exact ⟨rfl, rfl⟩
  · have hr : orI x y = x := by unfold orI; rw [if_neg hx]
    rw [hr]
    have e1 : (x == 0) = false := by simpa using hx
    have e2 : (x != 0) = true := by simpa using hx
    clear hx
    go_enter Tryz.func45, Tryz.ntmps45
    go_wp2_with fail
    go_loop [8] (fun i => i = .int .i64 0) (fun i => 2 - (intOf i).toNat)
    case atStart => rfl
    case round =>
      obtain rfl := hrel
      go_wp2_with fail
      go_ret
      exact ⟨rfl, rfl⟩

theorem box2_new (w : World) (v0 v1 : Value) (T : TypeId) : (w.alloc (.cells #[v0, v1] T)).cell? ⟨w.heap.size, 0, none⟩ = some v0 ∧ (w.alloc (.cells #[v0, v1] T)).cell? ⟨w.heap.size, 1, none⟩ = some v1 :=
  ⟨cell_of_row _ _ 0 _ _ _ (heap_alloc_new _ _), cell_of_row _ _ 1 _ _ _ (heap_alloc_new _ _)⟩
theorem box2_keep {w w1 : World} {g : Nat} {v0 v1 : Value} (h : w.cell? ⟨g, 0, none⟩ = some v0 ∧ w.cell? ⟨g, 1, none⟩ = some v1) (hb : Below w.heap.size w w1) : w1.cell? ⟨g, 0, none⟩ = some v0 ∧ w1.cell? ⟨g, 1, none⟩ = some v1 :=
  ⟨(hb.cell (p := ⟨g, 0, none⟩) (block_lt_of_cell h.1)).trans h.1, (hb.cell (p := ⟨g, 1, none⟩) (block_lt_of_cell h.2)).trans h.2⟩
theorem sum_eq (a b c d : Int) (w : World) : (Op.equalIn 10000 75 (.agg #[.int .i64 a, .int .u64 b]) (.agg #[.int .i64 c, .int .u64 d])).run Tryz.prog w = .ok (a == c && b == d) w := by
  simp [go_sem]
  by_cases h1 : a = c <;> by_cases h2 : b = d <;> simp [h1, h2]
set_option maxHeartbeats 1600000 in
theorem int_any (x : BitVec 128) (w : World) (h : fitB x = true) :
    Calls Tryz.prog 79 #[.agg #[.int .i64 (hiB x), .int .u64 (loB x)]] w fun e w' => e = .returned (.tuple #[.int .i64 x.toInt, .int .i64 0]) ∧ Below w.heap.size w w' := by
  have HO := Lib.hid (fun w => of_any (w64 (loB x)) w (low_range x).1 (low_range x).2)
  rw [low_hi_fit x h, low_lo] at HO
  have e1 := fit_low x h
  rw [e1] at HO
  generalize x.toInt = n at *
  have e2 : wrap64 (loB x : Int) = n := by rw [← e1]; simp only [w64, wrap64]
  clear e1
  generalize hiB x = hx at *
  generalize loB x = lx at *
  go_enter Tryz.func79, Tryz.ntmps79
  go_wp2_with fail
  rw [e2]
  clear e2
  go_region_held3 (fun w' => w'.cell? ⟨w.heap.size, 0, none⟩ = some (.int .i64 hx) ∧ w'.cell? ⟨w.heap.size, 1, none⟩ = some (.int .u64 lx)) (first | go_keep | exact c1) ((go_at_call 66; refine (HO.out _).mono ?_; rintro e w1 ⟨rfl, hb1⟩; have c1 := box2_keep (box2_new w (.int .i64 hx) (.int .u64 lx) 75) ((Below.refl _ _).drew.trans hb1)))
  go_wp2_with fail
  go_ret2
  exact ⟨rfl, ((Below.refl _ _).alloc (Nat.le_refl _) _).trans (((Below.refl _ _).drew.trans hb1).mono (by simp))⟩

set_option maxHeartbeats 1600000 in
theorem int_none (x : BitVec 128) (w : World) (h : fitB x = false) :
    Calls Tryz.prog 79 #[.agg #[.int .i64 (hiB x), .int .u64 (loB x)]] w fun e w' => e = .returned (.tuple #[.int .i64 0, .int .i64 24]) ∧ Below w.heap.size w w' := by
  have HO := Lib.hid (fun w => of_any (w64 (loB x)) w (low_range x).1 (low_range x).2)
  have hne := low_hi_not x h
  rw [low_lo] at HO
  have e2 : wrap64 (loB x : Int) = w64 (loB x) := by simp only [w64, wrap64]
  generalize hiB (BitVec.ofInt 128 (w64 (loB x))) = p at *
  generalize w64 (loB x) = n at *
  generalize hiB x = hx at *
  generalize loB x = lx at *
  go_enter Tryz.func79, Tryz.ntmps79
  go_wp2_with fail
  rw [e2]
  clear e2
  have HV : ∃ V : Value, V = .agg #[.int .i64 p, .int .u64 lx] := ⟨_, rfl⟩
  obtain ⟨V, hV⟩ := HV
  have HQ : ∀ W : World, (binOp .neq 75 V (.agg #[.int .i64 hx, .int .u64 lx])).run Tryz.prog W = .ok (.bool true) W := fun W => by
    rw [hV, run_neq_struct, sum_eq, hne]
    rfl
  have HG : ∀ (x y : Operand) (W : World), (eqGuard .neq 75 x y V (.agg #[.int .i64 hx, .int .u64 lx])).run Tryz.prog W = .ok () W := fun x y W => by
    rw [hV]
    exact run_eqGuard_agg _ _ _ _ _ _ _ (by kernel_rfl)
  rw [← hV] at HO
  clear hne hV
  go_region_held3 (fun w' => w'.cell? ⟨w.heap.size, 0, none⟩ = some (.int .i64 hx) ∧ w'.cell? ⟨w.heap.size, 1, none⟩ = some (.int .u64 lx)) (first | go_keep | exact c1) ((go_at_call 66; refine (HO.out _).mono ?_; rintro e w1 ⟨rfl, hb1⟩; have c1 := box2_keep (box2_new w (.int .i64 hx) (.int .u64 lx) 75) ((Below.refl _ _).drew.trans hb1)))
  go_wp2_with fail
  go_ret2
  exact ⟨rfl, ((Below.refl _ _).alloc (Nat.le_refl _) _).trans (((Below.refl _ _).drew.trans hb1).mono (by simp))⟩
end Wd
end Go.Proofs.YtpklajadfbigcaaGreatDoor
namespace Go.Proofs.YtpklajadfbigcaaGreatDoor
open Go.RowKit

structure Vl where
  k : Int
  n : Int
  s : ByteArray
instance : Inhabited Vl := ⟨⟨0, 0, ⟨#[]⟩⟩⟩
def Vl.good (x : Vl) : Bool := goodB x.k x.n x.s
def Vl.ord (x y : Vl) : Int := ordC x.k x.n x.s y.k y.n y.s

def RowAt (w : World) (a : Option Addr) (l : List Vl) : Prop :=
  l.length ≤ 9223372036854775807 ∧ (∀ x ∈ l, x.s.size ≤ maxLen) ∧ (l = [] ∨ ∃ b off, a = some ⟨b, off, none⟩ ∧ b < w.heap.size ∧ ∀ i, i < l.length → w.cell? ⟨b, off + i * 3, none⟩ = some (.int .i64 (l.getD i default).k) ∧ w.cell? ⟨b, off + i * 3 + 1, none⟩ = some (.int .i64 (l.getD i default).n) ∧ w.cell? ⟨b, off + i * 3 + 2, none⟩ = some (.string (l.getD i default).s))

theorem RowAt.keep {w w' : World} {a : Option Addr} {l : List Vl} (h : RowAt w a l) (hb : Below w.heap.size w w') : RowAt w' a l := by
  obtain ⟨h1, h2, h3⟩ := h
  refine ⟨h1, h2, ?_⟩
  rcases h3 with h3 | ⟨b, off, e, hlt, hc⟩
  · exact .inl h3
  · have := hb.size
    exact .inr ⟨b, off, e, by omega, fun i hi => ⟨(hb.cell (p := ⟨b, _, none⟩) hlt).trans (hc i hi).1, (hb.cell (p := ⟨b, _, none⟩) hlt).trans (hc i hi).2.1, (hb.cell (p := ⟨b, _, none⟩) hlt).trans (hc i hi).2.2⟩⟩
theorem RowAt.at {w : World} {a : Option Addr} {l : List Vl} (h : RowAt w a l) {i : Nat} (hi : i < l.length) : ∃ b off, a = some ⟨b, off, none⟩ ∧ b < w.heap.size ∧ w.cell? ⟨b, off + i * 3, none⟩ = some (.int .i64 (l.getD i default).k) ∧ w.cell? ⟨b, off + i * 3 + 1, none⟩ = some (.int .i64 (l.getD i default).n) ∧ w.cell? ⟨b, off + i * 3 + 2, none⟩ = some (.string (l.getD i default).s) := by
  rcases h.2.2 with h3 | ⟨b, off, e, hlt, hc⟩
  · rw [h3] at hi; simp at hi
  · exact ⟨b, off, e, hlt, hc i hi⟩

theorem Vl.ord_zero {x y : Vl} : x.ord y = 0 ↔ x = y := by
  unfold Vl.ord
  rw [ordC_zero]
  cases x; cases y; simp
end Go.Proofs.YtpklajadfbigcaaGreatDoor
namespace Go.Proofs.YtpklajadfbigcaaGreatDoor
open Go.RowKit

def hexv (c : UInt8) : Option Nat := if 48 ≤ c.toNat ∧ c.toNat ≤ 57 then some (c.toNat - 48) else if 97 ≤ c.toNat ∧ c.toNat ≤ 102 then some (c.toNat - 87) else none
def escL : List UInt8 → Option (UInt8 × List UInt8)
  | a :: b :: r => match hexv a, hexv b with
    | some h, some l => if plainB (16 * h + l) then none else some (UInt8.ofNat (16 * h + l), r)
    | _, _ => none
  | _ => none
def firstL : List UInt8 → Option (UInt8 × List UInt8)
  | [] => none
  | c :: r => if c = 92 then escL r else if c = 39 then (match r with | d :: r' => if d = 39 then some (39, r') else none | [] => none) else if plainB c.toNat then some (c, r) else none

theorem escL_len {l : List UInt8} {c : UInt8} {r : List UInt8} (h : escL l = some (c, r)) : l.length = r.length + 2 := by
  match l with
  | [] => simp [escL] at h
  | [_] => simp [escL] at h
  | a :: b :: t =>
    simp only [escL] at h
    split at h
    · split at h
      · cases h
      · simp only [Option.some.injEq, Prod.mk.injEq] at h
        simp [h.2]
    · cases h
theorem firstL_len {l : List UInt8} {c : UInt8} {r : List UInt8} (h : firstL l = some (c, r)) : r.length < l.length ∧ l.length ≤ r.length + 3 := by
  match l with
  | [] => simp [firstL] at h
  | a :: t =>
    simp only [firstL] at h
    split at h
    · have := escL_len h; simp only [List.length_cons]; omega
    · split at h
      · split at h
        · split at h
          · simp only [Option.some.injEq, Prod.mk.injEq] at h; simp [← h.2]; omega
          · cases h
        · cases h
      · split at h
        · simp only [Option.some.injEq, Prod.mk.injEq] at h; simp [← h.2]
        · cases h
def readB (l : List UInt8) : Option (List UInt8) :=
  if l = [39] then some [] else
    match _h : firstL l with
    | none => none
    | some (c, r) => (readB r).map (c :: ·)
termination_by l.length
decreasing_by exact (firstL_len (by assumption)).1
end Go.Proofs.YtpklajadfbigcaaGreatDoor
namespace Go.Proofs.YtpklajadfbigcaaGreatDoor
namespace Wd
open Go.RowKit

theorem TabW.keep {w w' : World} (h : TabW w) (hb : Below w.heap.size w w') : TabW w' :=
  Joins.tab_stays (g := 4) (by kernel_rfl) h hb (Nat.le_refl _)
theorem ret_bytes {a b : ByteArray} (h : a.data.toList = b.data.toList) : Ending.returned (.string a) = .returned (.string b) := by
  have : a = b := by
    cases a; cases b
    simp at h
    rw [h]
  rw [this]

set_option maxHeartbeats 1600000 in
theorem div_low (lo : Nat) (w : World) (hlo : lo < 18446744073709551616) :
    Calls Tryz.prog 86 #[.int .u64 0, .int .u64 lo, .int .u64 10000000000000000000] w fun e w' => e = .returned (.tuple #[.int .u64 ((lo / 10000000000000000000 : Nat) : Int), .int .u64 ((lo % 10000000000000000000 : Nat) : Int)]) ∧ Below w.heap.size w w' := by
  go_enter Tryz.func86, Tryz.ntmps86
  go_wp2_with fail
  go_quiet (fail)
  go_wp2_with fail
  go_ret2
  exact ⟨by simp, below_drewN (Below.refl _ _) _⟩

set_option maxHeartbeats 1600000 in
theorem digits_short (h : Int) (hu l b : Nat) (t : ByteArray) (w : World) (hw : IntKind.u64.wrap h = (hu : Int))
    (HD : Hid (∀ w, Calls Tryz.prog 86 #[.int .u64 hu, .int .u64 l, .int .u64 10000000000000000000] w fun e w' => e = .returned (.tuple #[.int .u64 0, .int .u64 b]) ∧ Below w.heap.size w w'))
    (HF : Hid (∀ w, TabW w → Calls Tryz.prog 87 #[.int .u64 b, .int .i64 10] w fun e w' => e = .returned (.string t) ∧ Below w.heap.size w w')) (htab : TabW w) :
    Calls Tryz.prog 83 #[.agg #[.int .i64 h, .int .u64 l]] w fun e w' => e = .returned (.string t) ∧ Below w.heap.size w w' := by
  have HT := Lib.hid htab
  clear htab
  go_enter Tryz.func83, Tryz.ntmps83
  go_wp2_with fail
  refine (HD.out _).mono ?_
  rintro e w0 ⟨rfl, hb0⟩
  have T0 := Lib.hid ((HT.out.keep ((Below.refl w.heap.size w).alloc (Nat.le_refl _) (.cells #[.int .i64 h, .int .u64 l] 75))).keep hb0)
  go_wp2_with fail
  refine (HF.out _ T0.out).mono ?_
  rintro e w1 ⟨rfl, hb⟩
  go_wp2_with fail
  go_ret
  exact ⟨rfl, ((Below.refl _ _).alloc (Nat.le_refl _) _).trans ((hb0.trans (hb.mono hb0.size)).mono (by simp))⟩

set_option maxHeartbeats 1600000 in
theorem digits_long (h : Int) (hu l f b c : Nat) (s t z : ByteArray) (w : World) (hw : IntKind.u64.wrap h = (hu : Int)) (hf' : ((f : Int) == 0) = false)
    (ht : t.size ≤ 19) (hc : (19 : Int) - t.size = c) (hs : s.size ≤ 20) (hz : z.size ≤ 19)
    (HD : Hid (∀ w, Calls Tryz.prog 86 #[.int .u64 hu, .int .u64 l, .int .u64 10000000000000000000] w fun e w' => e = .returned (.tuple #[.int .u64 f, .int .u64 b]) ∧ Below w.heap.size w w'))
    (HF : Hid (∀ w, TabW w → Calls Tryz.prog 87 #[.int .u64 b, .int .i64 10] w fun e w' => e = .returned (.string t) ∧ Below w.heap.size w w'))
    (HG : Hid (∀ w, TabW w → Calls Tryz.prog 87 #[.int .u64 f, .int .i64 10] w fun e w' => e = .returned (.string s) ∧ Below w.heap.size w w'))
    (HR : Hid (∀ w, Calls Tryz.prog 88 #[.string ⟨#[48]⟩, .int .i64 c] w fun e w' => e = .returned (.string z) ∧ Below w.heap.size w w')) (htab : TabW w) :
    Calls Tryz.prog 83 #[.agg #[.int .i64 h, .int .u64 l]] w fun e w' => e = .returned (.string ⟨(s.data.toList ++ z.data.toList ++ t.data.toList).toArray⟩) ∧ Below w.heap.size w w' := by
  have HT := Lib.hid htab
  clear htab
  go_enter Tryz.func83, Tryz.ntmps83
  go_wp2_with fail
  refine (HD.out _).mono ?_
  rintro e w0 ⟨rfl, hb0⟩
  have T0 := Lib.hid ((HT.out.keep ((Below.refl w.heap.size w).alloc (Nat.le_refl _) (.cells #[.int .i64 h, .int .u64 l] 75))).keep hb0)
  go_wp2_with fail
  refine (HF.out _ T0.out).mono ?_
  rintro e w1 ⟨rfl, hb1⟩
  have T1 := Lib.hid (T0.out.keep hb1)
  go_wp2_with fail
  refine (HG.out _ T1.out).mono ?_
  rintro e w2 ⟨rfl, hb2⟩
  go_wp2_with fail
  refine (HR.out _).mono ?_
  rintro e w3 ⟨rfl, hb3⟩
  go_wp2_with fail
  go_ret
  refine ⟨ret_bytes (by simp), ?_⟩
  exact ((Below.refl _ _).alloc (Nat.le_refl _) _).trans ((hb0.trans ((hb1.trans ((hb2.trans (hb3.mono hb2.size)).mono hb1.size)).mono hb0.size)).mono (by simp))

theorem dl19 {b : Nat} (hb : b < 10000000000000000000) : 1 ≤ (Lib.decDigits b).length ∧ (Lib.decDigits b).length ≤ 19 := dig_len 18 b hb
theorem digits_any (h : Int) (hu l f b : Nat) (w : World) (hw : IntKind.u64.wrap h = (hu : Int)) (hf : f < 18446744073709551616) (hb : b < 10000000000000000000)
    (HD : Hid (∀ w, Calls Tryz.prog 86 #[.int .u64 hu, .int .u64 l, .int .u64 10000000000000000000] w fun e w' => e = .returned (.tuple #[.int .u64 f, .int .u64 b]) ∧ Below w.heap.size w w')) (htab : TabW w) :
    Calls Tryz.prog 83 #[.agg #[.int .i64 h, .int .u64 l]] w fun e w' => e = .returned (.string ⟨(Lib.decDigits (f * 10000000000000000000 + b)).toArray⟩) ∧ Below w.heap.size w w' := by
  have hl := dl19 hb
  by_cases h0 : f = 0
  · subst h0
    rw [Nat.zero_mul, Nat.zero_add]
    exact digits_short h hu l b _ w hw HD (Lib.hid fun w ht => format_any b (by omega) w ht) htab
  · have e := dig_blocks f (by omega) 18 b hb
    rw [show (10 : Nat) ^ (18 + 1) = 10000000000000000000 from rfl] at e
    rw [e]
    have hfl := dig_len 19 f (by omega)
    have hz : (Lib.repeatL [48] (18 + 1 - (Lib.decDigits b).length)).length = 18 + 1 - (Lib.decDigits b).length := by rw [Lib.repeatL_length]; simp
    have H := digits_long h hu l f b (18 + 1 - (Lib.decDigits b).length) ⟨(Lib.decDigits f).toArray⟩ ⟨(Lib.decDigits b).toArray⟩ ⟨(Lib.repeatL [48] (18 + 1 - (Lib.decDigits b).length)).toArray⟩ w hw (by simpa using h0)
      (by show (Lib.decDigits b).toArray.size ≤ 19; simpa using hl.2)
      (by show (19 : Int) - (((Lib.decDigits b).toArray.size : Nat) : Int) = _; simp; omega)
      (by show (Lib.decDigits f).toArray.size ≤ 20; simpa using hfl.2)
      (by show (Lib.repeatL [48] (18 + 1 - (Lib.decDigits b).length)).toArray.size ≤ 19; rw [List.size_toArray, hz]; omega)
      HD (Lib.hid fun w ht => format_any b (by omega) w ht) (Lib.hid fun w ht => format_any f hf w ht)
      (Lib.hid fun w => Tryz.strings_Repeat ⟨#[48]⟩ _ w (by omega) (by show 1 * _ ≤ _; omega)) htab
    exact H

end Wd
end Go.Proofs.YtpklajadfbigcaaGreatDoor
namespace Go.Proofs.YtpklajadfbigcaaGreatDoor
open Go.RowKit

end Go.Proofs.YtpklajadfbigcaaGreatDoor
