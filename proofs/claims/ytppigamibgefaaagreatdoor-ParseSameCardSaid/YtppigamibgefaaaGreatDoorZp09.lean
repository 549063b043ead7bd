/- Trees in memory. Contracts of value.written and value.readInt. slices.Clone at a row, and tree's top. -/
import Derived.Test.YtppigamibgefaaaGreatDoorZp08
import Derived.Test.YtppigamibgefaaaGreatDoorZp00
import Derived.Deep.AppendLies
import Derived.Maps.AppendAt
import Derived.Lib.SliceRun
namespace Go.Proofs.YtppigamibgefaaaGreatDoor
open Go.RowKit

abbrev Tre := Tr (List Vl) (List Vl)
theorem grown_reflT (w : World) (row : Option Nat) : w.grownBy w row := ⟨rfl, rfl, rfl, Nat.le_refl _, fun _ _ _ => rfl⟩
theorem grown_drewT {w w' : World} {row : Option Nat} (h : w.grownBy w' row) : w.grownBy w'.drew row := ⟨h.os, h.tape, h.output, h.size, h.block⟩
theorem grown_drewNT {w w' : World} {row : Option Nat} (h : w.grownBy w' row) (n : Nat) : w.grownBy (w'.drewN n) row := ⟨h.os, h.tape, h.output, h.size, h.block⟩
theorem grown_belowT {w w' : World} (h : Below w.heap.size w w') (row : Option Nat) : w.grownBy w' row := ⟨h.os, h.tape, h.output, h.size, fun i hi _ => h.block i hi⟩
theorem below_grownT {w w' : World} (h : w.grownBy w' none) : Below w.heap.size w w' := ⟨h.os, h.tape, h.output, h.size, fun k hk => h.block k hk (by simp)⟩
/-- A row that lies in blocks of S. -/
def RwS (S : Nat → Prop) (w : World) (a : Option Addr) (l : List Vl) : Prop :=
  l.length ≤ 4294967296 ∧ (∀ x ∈ l, x.s.size ≤ maxLen) ∧ (l = [] ∨ ∃ b off, a = some ⟨b, off, none⟩ ∧ S b ∧ b < w.heap.size ∧ ∀ i, i < l.length → w.cell? ⟨b, off + i * 3, none⟩ = some (.int .i64 (l.getD i default).k) ∧ w.cell? ⟨b, off + i * 3 + 1, none⟩ = some (.int .i64 (l.getD i default).n) ∧ w.cell? ⟨b, off + i * 3 + 2, none⟩ = some (.string (l.getD i default).s))
theorem RwS.row {S : Nat → Prop} {w : World} {a : Option Addr} {l : List Vl} (h : RwS S w a l) : RowAt w a l :=
  ⟨by have := h.1; omega, h.2.1, h.2.2.imp id fun ⟨b, off, e, _, hlt, hc⟩ => ⟨b, off, e, hlt, hc⟩⟩
/-- What lies in S stays. -/
def Stays (S : Nat → Prop) (w w' : World) : Prop := w.heap.size ≤ w'.heap.size ∧ ∀ b, S b → b < w.heap.size → w'.heap[b]? = w.heap[b]?
theorem Stays.of {S : Nat → Prop} {w w' : World} (h : w.grownBy w' none) : Stays S w w' := ⟨h.size, fun b _ hb => h.block b hb (by simp)⟩
theorem RwS.keep {S : Nat → Prop} {w w' : World} {a : Option Addr} {l : List Vl} (h : RwS S w a l) (hk : Stays S w w') : RwS S w' a l := by
  refine ⟨h.1, h.2.1, h.2.2.imp id fun ⟨b, off, e, hs, hlt, hc⟩ => ⟨b, off, e, hs, Nat.lt_of_lt_of_le hlt hk.1, fun i hi => ?_⟩⟩
  have hb := hk.2 b hs hlt
  exact ⟨(World.cell?_of_block (a := ⟨b, _, none⟩) hb).trans (hc i hi).1, (World.cell?_of_block (a := ⟨b, _, none⟩) hb).trans (hc i hi).2.1, (World.cell?_of_block (a := ⟨b, _, none⟩) hb).trans (hc i hi).2.2⟩
theorem RwS.mono {S S' : Nat → Prop} {w : World} {a : Option Addr} {l : List Vl} (h : RwS S w a l) (hs : ∀ b, b < w.heap.size → S b → S' b) : RwS S' w a l :=
  ⟨h.1, h.2.1, h.2.2.imp id fun ⟨b, off, e, h1, h2, hc⟩ => ⟨b, off, e, hs b h2 h1, h2, hc⟩⟩
/-- A tree that lies in blocks of S. -/
def TrAt (S : Nat → Prop) (w : World) : Tre → Option Addr → Prop
  | .nil, p => p = none
  | .node l k v r, p => ∃ b ka kc va vc lp rp, p = some ⟨b, 0, none⟩ ∧ S b ∧ b < w.heap.size
      ∧ (w.cell? ⟨b, 0, none⟩ = some (.slice ka k.length kc) ∧ w.cell? ⟨b, 1, none⟩ = some (.slice va v.length vc) ∧ w.cell? ⟨b, 2, none⟩ = some (.pointer lp) ∧ w.cell? ⟨b, 3, none⟩ = some (.pointer rp) ∧ w.cell? ⟨b, 4, none⟩ = some (.int .i64 (Tr.h (.node l k v r) : Nat)) ∧ w.cell? ⟨b, 5, none⟩ = some (.int .i64 (Tr.n (.node l k v r) : Nat)))
      ∧ RwS S w ka k ∧ RwS S w va v ∧ TrAt S w l lp ∧ TrAt S w r rp
theorem TrAt.keep {S : Nat → Prop} {w w' : World} (hk : Stays S w w') : ∀ {t : Tre} {p : Option Addr}, TrAt S w t p → TrAt S w' t p
  | .nil, _, h => h
  | .node _ _ _ _, _, ⟨b, ka, kc, va, vc, lp, rp, e, hs, hb, ⟨c0, c1, c2, c3, c4, c5⟩, h1, h2, h3, h4⟩ => by
    have hbb := hk.2 b hs hb
    have g : ∀ {o : Nat} {x : Value}, w.cell? ⟨b, o, none⟩ = some x → w'.cell? ⟨b, o, none⟩ = some x := fun {o x} h => (World.cell?_of_block (a := ⟨b, o, none⟩) hbb).trans h
    exact ⟨b, ka, kc, va, vc, lp, rp, e, hs, Nat.lt_of_lt_of_le hb hk.1, ⟨g c0, g c1, g c2, g c3, g c4, g c5⟩, h1.keep hk, h2.keep hk, TrAt.keep hk h3, TrAt.keep hk h4⟩
theorem TrAt.mono {S S' : Nat → Prop} {w : World} (hs : ∀ b, b < w.heap.size → S b → S' b) : ∀ {t : Tre} {p : Option Addr}, TrAt S w t p → TrAt S' w t p
  | .nil, _, h => h
  | .node _ _ _ _, _, ⟨b, ka, kc, va, vc, lp, rp, e, hb1, hb, hc, h1, h2, h3, h4⟩ =>
    ⟨b, ka, kc, va, vc, lp, rp, e, hs b hb hb1, hb, hc, h1.mono hs, h2.mono hs, TrAt.mono hs h3, TrAt.mono hs h4⟩
end Go.Proofs.YtppigamibgefaaaGreatDoor
namespace Go.Proofs.YtppigamibgefaaaGreatDoor
open Go.RowKit

def digB (c : UInt8) : Bool := decide (48 ≤ c.toNat) && decide (c.toNat ≤ 57)
/-- Is a text what an int would be written as, of whatever size? -/
def wrB (l : List UInt8) : Bool := match Lib.trimPrefix l [45] with
  | [] => false
  | c :: r => if c = 48 then l == [48] else (c :: r).all digB

theorem all_dig_stop {t : ByteArray} {k : Nat} (h : k < t.size) (hf : digB t[k] = false) : t.data.toList.all digB = false := by
  rw [List.all_eq_false]
  refine ⟨t[k], ?_, by rw [hf]; simp⟩
  have : t.data.toList[k]'(by simpa using h) ∈ t.data.toList := List.getElem_mem _
  exact this
theorem all_dig_go {t : ByteArray} {k : Nat} (h : k < t.size) (ha : (t.data.toList.take k).all digB = true) (hf : digB t[k] = true) : (t.data.toList.take (k + 1)).all digB = true := by
  rw [take_snoc t k h, List.all_append, ha]
  simp [hf]
theorem dig_no1 {c : UInt8} (h : c.toNat < 48) : digB c = false := by simp [digB]; omega
theorem dig_no2 {c : UInt8} (h : 57 < c.toNat) : digB c = false := by simp [digB]; omega
theorem dig_yes {c : UInt8} (h : ¬ c.toNat < 48) (h' : ¬ 57 < c.toNat) : digB c = true := by simp [digB]; omega

set_option maxHeartbeats 800000 in
theorem written_any (s : ByteArray) (w : World) (hs : s.size ≤ 1510) :
    Calls Tryz.prog 167 #[.string s] w fun e w' => e = .returned (.bool (wrB s.data.toList)) ∧ Drawn w w' := by
  have HT : Hid (∀ w, ∃ t : ByteArray, t.data.toList = Lib.trimPrefix s.data.toList [45] ∧ t.size ≤ 1510 ∧ Calls Tryz.prog 183 #[.string s, .string ⟨#[45]⟩] w fun e w' => e = .returned (.string t) ∧ w = w') := Lib.hid fun w =>
    ⟨⟨(Lib.trimPrefix s.data.toList [45]).toArray⟩, by simp, by
      show (Lib.trimPrefix s.data.toList [45]).toArray.size ≤ 1510
      have : s.data.toList.length = s.size := (size_list rfl).symm
      unfold Lib.trimPrefix
      split
      · simp at this ⊢; omega
      · simp at this ⊢; omega, (Tryz.strings_TrimPrefix s ⟨#[45]⟩ w).mono fun _ _ ⟨he, hw⟩ => ⟨he, hw.symm⟩⟩
  obtain ⟨t, ht, hts, HC⟩ := HT.out w
  have HCh := Lib.hid HC
  clear HC
  generalize hres : wrB s.data.toList = res
  have Hres := Lib.hid hres
  clear hres
  cases hl : t.data.toList with
  | nil =>
    have he : t.toList.isEmpty = true := by rw [Lib.toList_data, hl]; rfl
    have hr : res = false := by rw [← Hres.out, wrB, ← ht, hl]
    subst hr
    clear hl ht
    go_enter Tryz.func167, Tryz.ntmps167
    go_wp2_with fail
    refine HCh.out.mono ?_
    rintro e w' ⟨rfl, rfl⟩
    go_wp2_with fail
    go_ret
    exact ⟨rfl, 0, rfl⟩
  | cons c r =>
    obtain ⟨h0, ec, _⟩ := shut1 hl
    have he := nonempty_bytes hl
    have h0' : (0 : Int) < t.size := by omega
    by_cases h48 : c = 48
    · have hb : ((t[0].toNat : Int) == 48) = true := by rw [ec, h48]; decide
      have hr : res = (s.toList == [48]) := by rw [← Hres.out, wrB, ← ht, hl, Lib.toList_data]; simp only [h48, if_true]
      have Hr := Lib.hid hr
      clear hl ht ec hr
      rename_i hsz
      clear hsz
      go_enter Tryz.func167, Tryz.ntmps167
      go_wp2_with fail
      refine HCh.out.mono ?_
      rintro e w' ⟨rfl, rfl⟩
      go_wp2_with fail
      go_ret
      exact ⟨ret_bool Hr.out.symm, 0, rfl⟩
    · have hb : ((t[0].toNat : Int) == 48) = false := by rw [ec]; exact ne_byte 48 (fun h => h48 (UInt8.toNat_inj.1 h))
      have hr : res = t.data.toList.all digB := by rw [← Hres.out, wrB, ← ht, hl]; simp only [h48, if_false]
      have Hr := Lib.hid hr
      clear hl ht ec hr
      rename_i hsz
      clear hsz
      go_enter Tryz.func167, Tryz.ntmps167
      go_wp2_with fail
      refine HCh.out.mono ?_
      rintro e w' ⟨rfl, rfl⟩
      go_wp2_with fail
      go_loopw [16] (fun i wr => ∃ k : Nat, k ≤ t.size ∧ i = .int .i64 k ∧ Hid ((t.data.toList.take k).all digB = true) ∧ Drawn w wr) (fun i _ => t.size - (intOf i).toNat)
      case atStart => exact ⟨0, Nat.zero_le _, rfl, rfl, 0, rfl⟩
      case round =>
        obtain ⟨k, hk, rfl, hall, nq, rfl⟩ := hrel
        by_cases hlt : k < t.size
        · go_wp2_with fail
          · have h := ‹(t[k].toNat : Int) < 48 ∨ 57 < (t[k].toNat : Int)›
            have h2 := ‹(48 : Int) ≤ (t[k].toNat : Int)›
            go_ret
            exact ⟨ret_bool (by rw [Hr.out]; exact (all_dig_stop hlt (dig_no2 (by omega))).symm), nq, rfl⟩
          · have h := ‹(48 : Int) ≤ (t[k].toNat : Int) ∧ (t[k].toNat : Int) ≤ 57›
            go_roundw
            case rel => exact ⟨k + 1, by omega, by go_num, all_dig_go hlt hall.out (dig_yes (by omega) (by omega)), nq, rfl⟩
            case measure => simp [intOf]; omega
          · have h := ‹(t[k].toNat : Int) < 48›
            go_ret
            exact ⟨ret_bool (by rw [Hr.out]; exact (all_dig_stop hlt (dig_no1 (by omega))).symm), nq, rfl⟩
        · obtain rfl : k = t.size := by omega
          go_wp2_with fail
          go_ret
          exact ⟨ret_bool (by rw [Hr.out]; have := hall.out; rw [List.take_of_length_le (by rw [← size_list rfl]; exact Nat.le_refl _)] at this; exact this.symm), nq, rfl⟩

/-- What digits say, behind a number. -/
def dfrom (n : Nat) (l : List UInt8) : Nat := l.foldl (fun n c => 10 * n + (c.toNat - 48)) n
theorem dfrom_cons (n : Nat) (c : UInt8) (l : List UInt8) : dfrom n (c :: l) = dfrom (10 * n + (c.toNat - 48)) l := by unfold dfrom; rw [List.foldl_cons]
theorem dfrom_ge : ∀ (l : List UInt8) (n : Nat), n ≤ dfrom n l
  | [], n => Nat.le_refl _
  | c :: l, n => by rw [dfrom_cons]; have := dfrom_ge l (10 * n + (c.toNat - 48)); omega
theorem dval_dfrom (l : List UInt8) : dval l = dfrom 0 l := rfl
theorem digB_iff {c : UInt8} : digB c = true ↔ 48 ≤ c.toNat ∧ c.toNat ≤ 57 := by simp [digB]
theorem dfrom_nil (n : Nat) : dfrom n [] = n := by unfold dfrom; rw [List.foldl_nil]
theorem parse_nil (n : Nat) : Lib.parseUint10 n [] = .ok n := by rw [Lib.parseUint10]
theorem parse_cons (n : Nat) (c : UInt8) (l : List UInt8) (hc : digB c = true) : Lib.parseUint10 n (c :: l) = if 1844674407370955162 ≤ n then .range else if 18446744073709551616 ≤ n * 10 + (c.toNat - 48) then .range else Lib.parseUint10 (n * 10 + (c.toNat - 48)) l := by
  rw [Lib.parseUint10, if_pos (digB_iff.1 hc)]
theorem parse10 (l : List UInt8) : ∀ n : Nat, n < 18446744073709551616 → l.all digB = true → (dfrom n l < 18446744073709551616 → Lib.parseUint10 n l = .ok (dfrom n l)) ∧ (18446744073709551616 ≤ dfrom n l → Lib.parseUint10 n l = .range) := by
  induction l with
  | nil =>
    intro n hn _
    rw [dfrom_nil, parse_nil]
    exact ⟨fun _ => rfl, fun h => by omega⟩
  | cons c l ih =>
    intro n hn h
    rw [List.all_cons, Bool.and_eq_true] at h
    have hge := dfrom_ge l (10 * n + (c.toNat - 48))
    have ih' := ih (10 * n + (c.toNat - 48))
    rw [dfrom_cons, parse_cons n c l h.1, Nat.mul_comm n 10]
    generalize dfrom (10 * n + (c.toNat - 48)) l = v at *
    by_cases h1 : 1844674407370955162 ≤ n
    · rw [if_pos h1]
      exact ⟨fun h => by omega, fun _ => rfl⟩
    · rw [if_neg h1]
      by_cases h2 : 18446744073709551616 ≤ 10 * n + (c.toNat - 48)
      · rw [if_pos h2]
        exact ⟨fun h => by omega, fun _ => rfl⟩
      · rw [if_neg h2]
        exact ih' (by omega) h.2

/-- What an int's text says. -/
def ival (l : List UInt8) : Int := match l with
  | [] => 0
  | c :: r => if c = 45 then -(dval r : Int) else dval (c :: r)
theorem wrB_cases {l : List UInt8} (h : wrB l = true) : (∃ r, l = 45 :: r ∧ r ≠ [] ∧ r.all digB = true ∧ r.head? ≠ some 48) ∨ (l ≠ [] ∧ l.all digB = true ∧ (∀ r, l ≠ 45 :: r)) := by
  unfold wrB Lib.trimPrefix Lib.hasPrefix at h
  cases l with
  | nil => simp at h
  | cons a t =>
    by_cases h45 : a = 45
    · subst h45
      simp only [List.isPrefixOf, beq_self_eq_true, Bool.true_and, if_true, List.length_cons, List.length_nil, List.drop_succ_cons, List.drop_zero] at h
      cases t with
      | nil => simp at h
      | cons c r =>
        simp only at h
        by_cases h48 : c = 48
        · rw [if_pos h48] at h
          simp at h
        · rw [if_neg h48] at h
          exact .inl ⟨c :: r, rfl, by simp, h, by simp [h48]⟩
    · have hp : ([45] : List UInt8).isPrefixOf (a :: t) = false := by simp [List.isPrefixOf, Ne.symm h45]
      rw [hp] at h
      simp only [Bool.false_eq_true, if_false] at h
      refine .inr ⟨by simp, ?_, fun r e => h45 (List.cons.inj e).1⟩
      by_cases h48 : a = 48
      · rw [if_pos h48] at h
        have := eq_of_beq h
        rw [this]; decide
      · rw [if_neg h48] at h; exact h
theorem atoi_neg {r : List UInt8} (hr : r ≠ []) {u : Nat} (h : Lib.parseUint10 0 r = .ok u) : Lib.atoiAll (45 :: r) = if 9223372036854775808 < u then .range else .ok (-(u : Int)) := by
  simp only [Lib.atoiAll, show (45 : UInt8).toNat = 45 from rfl, or_true, if_true, Lib.parseMag, if_neg hr, h, not_true_eq_false, false_and, if_false, true_and]
theorem atoi_neg_far {r : List UInt8} (hr : r ≠ []) (h : Lib.parseUint10 0 r = .range) : Lib.atoiAll (45 :: r) = .range := by
  simp only [Lib.atoiAll, show (45 : UInt8).toNat = 45 from rfl, or_true, if_true, Lib.parseMag, if_neg hr, h]
theorem atoi_pos {c : UInt8} {r : List UInt8} (hc : 48 ≤ c.toNat) {u : Nat} (h : Lib.parseUint10 0 (c :: r) = .ok u) : Lib.atoiAll (c :: r) = if 9223372036854775808 ≤ u then .range else .ok (u : Int) := by
  have h43 : ¬ (c.toNat = 43 ∨ c.toNat = 45) := by omega
  have h45 : ¬ c.toNat = 45 := by omega
  have hne : ¬ c :: r = [] := by simp
  simp only [Lib.atoiAll, if_neg h43, Lib.parseMag, if_neg hne, h, if_neg h45]
  simp only [h45, not_false_eq_true, true_and, false_and, if_false]
theorem atoi_pos_far {c : UInt8} {r : List UInt8} (hc : 48 ≤ c.toNat) (h : Lib.parseUint10 0 (c :: r) = .range) : Lib.atoiAll (c :: r) = .range := by
  have h43 : ¬ (c.toNat = 43 ∨ c.toNat = 45) := by omega
  have hne : ¬ c :: r = [] := by simp
  simp only [Lib.atoiAll, if_neg h43, Lib.parseMag, if_neg hne, h]
theorem atoi_of {l : List UInt8} (h : wrB l = true) : (inI (ival l) = true → Lib.atoiAll l = .ok (ival l)) ∧ (inI (ival l) = false → Lib.atoiAll l = .range) := by
  rcases wrB_cases h with ⟨r, rfl, hr, hd, _⟩ | ⟨hne, hd, hm⟩
  · have e : ival (45 :: r) = -(dval r : Int) := rfl
    rw [e, dval_dfrom]
    obtain ⟨p1, p2⟩ := parse10 r 0 (by omega) hd
    have q1 := fun h => atoi_neg hr (p1 h)
    have q2 := fun h => atoi_neg_far hr (p2 h)
    generalize Lib.atoiAll (45 :: r) = z at *
    generalize dfrom 0 r = v at *
    clear p1 p2 e
    constructor
    · intro hi
      rw [inI_iff] at hi
      rw [q1 (by omega), if_neg (by omega)]
    · intro hi
      have hi' : ¬ (-9223372036854775808 ≤ -(v : Int) ∧ -(v : Int) ≤ 9223372036854775807) := by rw [← inI_iff, hi]; decide
      by_cases hb : v < 18446744073709551616
      · rw [q1 hb, if_pos (by omega)]
      · exact q2 (by omega)
  · cases l with
    | nil => exact absurd rfl hne
    | cons c r =>
      have hc45 : c ≠ 45 := fun e => hm r (by rw [e])
      have hcd : 48 ≤ c.toNat ∧ c.toNat ≤ 57 := by rw [List.all_cons, Bool.and_eq_true] at hd; exact digB_iff.1 hd.1
      have e : ival (c :: r) = (dval (c :: r) : Int) := by simp [ival, hc45]
      rw [e, dval_dfrom]
      obtain ⟨p1, p2⟩ := parse10 (c :: r) 0 (by omega) hd
      have q1 := fun h => atoi_pos hcd.1 (p1 h)
      have q2 := fun h => atoi_pos_far hcd.1 (p2 h)
      generalize Lib.atoiAll (c :: r) = z at *
      generalize dfrom 0 (c :: r) = v at *
      clear p1 p2 e
      constructor
      · intro hi
        rw [inI_iff] at hi
        rw [q1 (by omega), if_neg (by omega)]
      · intro hi
        have hi' : ¬ (-9223372036854775808 ≤ (v : Int) ∧ (v : Int) ≤ 9223372036854775807) := by rw [← inI_iff, hi]; decide
        by_cases hb : v < 18446744073709551616
        · rw [q1 hb, if_pos (by omega)]
        · exact q2 (by omega)
end Go.Proofs.YtppigamibgefaaaGreatDoor
namespace Go.Proofs.YtppigamibgefaaaGreatDoor
open Go.RowKit

def vCT (x : Vl) : List Value := [.int .i64 x.k, .int .i64 x.n, .string x.s]
theorem add_atT (g o j : Nat) : (⟨g, o, none⟩ : Addr).add j = ⟨g, o + j, none⟩ := by
  unfold Addr.add
  split
  · subst_vars; rfl
  · rfl
theorem vCT_one (l : List Vl) : ∀ u ∈ l.flatMap vCT, u.oneCell' = true := by
  intro u hu
  rw [List.mem_flatMap] at hu
  obtain ⟨x, _, hu⟩ := hu
  simp only [vCT, List.mem_cons, List.not_mem_nil, or_false] at hu
  rcases hu with rfl | rfl | rfl <;> rfl
theorem vCT_len (l : List Vl) : (l.flatMap vCT).length = l.length * 3 := by
  induction l with
  | nil => rfl
  | cons x l ih => rw [List.flatMap_cons, List.length_append, ih]; simp [vCT]; omega
theorem vCT_at (l : List Vl) : ∀ i, i < l.length → (l.flatMap vCT)[i * 3]? = some (.int .i64 (l.getD i default).k) ∧ (l.flatMap vCT)[i * 3 + 1]? = some (.int .i64 (l.getD i default).n) ∧ (l.flatMap vCT)[i * 3 + 2]? = some (.string (l.getD i default).s) := by
  induction l with
  | nil => intro i hi; simp at hi
  | cons x l ih =>
    intro i hi
    rw [List.flatMap_cons]
    match i, hi with
    | 0, _ => exact ⟨rfl, rfl, rfl⟩
    | i + 1, hi =>
      have := ih i (by simpa using hi)
      have e : ∀ o, (vCT x ++ l.flatMap vCT)[(i + 1) * 3 + o]? = (l.flatMap vCT)[i * 3 + o]? := fun o => by
        rw [List.getElem?_append_right (by simp [vCT]; omega)]
        congr 1
        simp [vCT]
        omega
      have e0 := e 0
      simp only [Nat.add_zero] at e0
      rw [e0, e 1, e 2]
      simpa [List.getD] using this
theorem vl_cells {w : World} {b off : Nat} {r : List Vl} (hc : ∀ i, i < r.length → w.cell? ⟨b, off + i * 3, none⟩ = some (.int .i64 (r.getD i default).k) ∧ w.cell? ⟨b, off + i * 3 + 1, none⟩ = some (.int .i64 (r.getD i default).n) ∧ w.cell? ⟨b, off + i * 3 + 2, none⟩ = some (.string (r.getD i default).s)) :
    ∀ n i, i + n = r.length → ∀ j u, ((r.drop i).flatMap vCT)[j]? = some u → w.cell? ((⟨b, off + i * 3, none⟩ : Addr).add j) = some u
  | 0, i, hi, j, u, hj => by rw [List.drop_of_length_le (by omega)] at hj; simp at hj
  | n + 1, i, hi, j, u, hj => by
    have hd : r.drop i = r.getD i default :: r.drop (i + 1) := by rw [List.drop_eq_getElem_cons (by omega)]; simp [List.getD, show i < r.length by omega]
    rw [hd, List.flatMap_cons] at hj
    have h3 := hc i (by omega)
    rw [add_atT]
    match j, hj with
    | 0, hj => simp [vCT] at hj; subst hj; exact h3.1
    | 1, hj => simp [vCT] at hj; subst hj; exact h3.2.1
    | 2, hj => simp [vCT] at hj; subst hj; exact h3.2.2
    | j + 3, hj =>
      have := vl_cells hc n (i + 1) (by omega) j u (by rw [List.getElem?_append_right (by simp [vCT])] at hj; simpa [vCT] using hj)
      rw [add_atT] at this
      rw [show off + i * 3 + (j + 3) = off + (i + 1) * 3 + j by omega]
      exact this
theorem val_infoT : (Tryz.prog.info? 27).map (fun i => (i.zero, i.size, i.bytes)) = some (some (.agg #[.int .i64 0, .int .i64 0, .string ⟨#[]⟩]), 3, 32) := by kernel_rfl
theorem info_partsT {o : Option TypeInfo} {z : Value} {s b : Nat} (h : o.map (fun i => (i.zero, i.size, i.bytes)) = some (some z, s, b)) : ∃ i, o = some i ∧ i.zero = some z ∧ i.size = s ∧ i.bytes = b := by
  cases o with
  | none => cases h
  | some i => simp at h; exact ⟨i, rfl, h.1, h.2.1, h.2.2⟩
theorem own_madeT (B g : Nat) (w : World) (T : TypeId) (n : Nat) (hg : g = w.heap.size) (hB : B ≤ w.heap.size) : (w.alloc (.cells #[] T)).ownsRow B T n (.slice (some ⟨g, 0, none⟩) 0 0) 0 [] := by
  subst hg
  exact ⟨by simp, .inr ⟨w.heap.size, 0, #[], rfl, hB, heap_alloc_new _ _, Nat.le_refl _, Nat.zero_le _, by simp, by simp⟩⟩
theorem grown_thenT {a b c : World} {row row' : Option Nat} (h : a.grownBy b row) (k : b.grownBy c row') (hr : ∀ j, row' = some j → a.heap.size ≤ j) : a.grownBy c row :=
  ⟨k.os.trans h.os, k.tape.trans h.tape, k.output.trans h.output, Nat.le_trans h.size k.size, fun i hi hne => (k.block i (Nat.lt_of_lt_of_le hi h.size) (fun e => by have := hr i e.symm; omega)).trans (h.block i hi hne)⟩
/-- A row of one's own lies in S. -/
theorem own_rw {S : Nat → Prop} {B : Nat} {w : World} {v : Value} {l : List Vl} (h : w.ownsRow B 27 3 v l.length (l.flatMap vCT)) (hS : ∀ b, B ≤ b → S b) (hl : l.length ≤ 4294967296) (hs : ∀ x ∈ l, x.s.size ≤ maxLen) : ∃ a cap, v = .slice a l.length cap ∧ RwS S w a l := by
  rcases h.2 with ⟨hv, h0⟩ | ⟨g, cap, cur, hv, hb, hg, _⟩
  · exact ⟨none, 0, by rw [hv, h0], hl, hs, .inl (List.eq_nil_of_length_eq_zero h0)⟩
  · have hlt := (h.lt g (by rw [hv]; rfl)).2
    refine ⟨some ⟨g, 0, none⟩, cap, hv, hl, hs, .inr ⟨g, 0, rfl, hS g hb, hlt, fun i hi => ?_⟩⟩
    have c := h.cells (g := g) (by rw [hv]; rfl)
    have k := vCT_at l i hi
    have c0 := c _ _ k.1
    have c1 := c _ _ k.2.1
    have c2 := c _ _ k.2.2
    rw [add_atT] at c0 c1 c2
    exact ⟨c0, c1, c2⟩
end Go.Proofs.YtppigamibgefaaaGreatDoor
