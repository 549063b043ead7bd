/- slices.Clone at a row, and tree's top. Contracts of value.readInt and value.Read. Names: contracts of schema's Name and the document's. -/
import Derived.Test.YtjaclmoobfeikaaGreatDoorZl09
import Derived.Lib.SliceRun
import Derived.WalkKit
import Derived.WalkSpells
import Derived.WalkLawsBesides
import Derived.Lib.Hide
import Derived.Lib.IndexBytes
namespace Go.Proofs.YtjaclmoobfeikaaGreatDoor
open Go.RowKit

def vCT (x : Vl) : List Value := [.int .i64 x.k, .int .i64 x.n, .string x.s]
theorem add_atT (g o j : Nat) : (⟨g, o, none⟩ : Addr).add j = ⟨g, o + j, none⟩ := by
  unfold Addr.add
  split
  · subst_vars; rfl
  · rfl
theorem vCT_at (l : List Vl) : ∀ i, i < l.length → (l.flatMap vCT)[i * 3]? = some (.int .i64 (l.getD i default).k) ∧ (l.flatMap vCT)[i * 3 + 1]? = some (.int .i64 (l.getD i default).n) ∧ (l.flatMap vCT)[i * 3 + 2]? = some (.string (l.getD i default).s) := by
  induction l with
  | nil => intro i hi; simp at hi
  | cons x l ih =>
    intro i hi
    rw [List.flatMap_cons]
    match i, hi with
    | 0, _ => exact ⟨rfl, rfl, rfl⟩
    | i + 1, hi =>
      have := ih i (by simpa using hi)
      have e : ∀ o, (vCT x ++ l.flatMap vCT)[(i + 1) * 3 + o]? = (l.flatMap vCT)[i * 3 + o]? := fun o => by
        rw [List.getElem?_append_right (by simp [vCT]; omega)]
        congr 1
        simp [vCT]
        omega
      have e0 := e 0
      simp only [Nat.add_zero] at e0
      rw [e0, e 1, e 2]
      simpa [List.getD] using this
theorem val_infoT : (Tryz.prog.info? 29).map (fun i => (i.zero, i.size, i.bytes)) = some (some (.agg #[.int .i64 0, .int .i64 0, .string ⟨#[]⟩]), 3, 32) := by kernel_rfl
theorem info_partsT {o : Option TypeInfo} {z : Value} {s b : Nat} (h : o.map (fun i => (i.zero, i.size, i.bytes)) = some (some z, s, b)) : ∃ i, o = some i ∧ i.zero = some z ∧ i.size = s ∧ i.bytes = b := by
  cases o with
  | none => cases h
  | some i => simp at h; exact ⟨i, rfl, h.1, h.2.1, h.2.2⟩
theorem own_madeT (B g : Nat) (w : World) (T : TypeId) (n : Nat) (hg : g = w.heap.size) (hB : B ≤ w.heap.size) : (w.alloc (.cells #[] T)).ownsRow B T n (.slice (some ⟨g, 0, none⟩) 0 0) 0 [] := by
  subst hg
  exact ⟨by simp, .inr ⟨w.heap.size, 0, #[], rfl, hB, heap_alloc_new _ _, Nat.le_refl _, Nat.zero_le _, by simp, by simp⟩⟩
theorem grown_thenT {a b c : World} {row row' : Option Nat} (h : a.grownBy b row) (k : b.grownBy c row') (hr : ∀ j, row' = some j → a.heap.size ≤ j) : a.grownBy c row :=
  ⟨k.os.trans h.os, k.tape.trans h.tape, k.output.trans h.output, Nat.le_trans h.size k.size, fun i hi hne => (k.block i (Nat.lt_of_lt_of_le hi h.size) (fun e => by have := hr i e.symm; omega)).trans (h.block i hi hne)⟩
end Go.Proofs.YtjaclmoobfeikaaGreatDoor
namespace Go.Proofs.YtjaclmoobfeikaaGreatDoor
open Go.RowKit

/-- The variable strconv.ErrRange holds something. -/
def Far (w : World) : Prop := ∃ tp p, w.cell? ⟨11, 0, none⟩ = some (.iface tp p)
theorem Far.keep {w w' : World} (h : Far w) {B : Nat} (hb : Below B w w') (hB : w.heap.size ≤ B) : Far w' := by
  obtain ⟨tp, p, h⟩ := h
  exact ⟨tp, p, by rw [hb.cell (Nat.lt_of_lt_of_le (World.block_lt_of_cell? w _ h) hB)]; exact h⟩

/-- What the reading of an int comes to. -/
def intRes (l : List UInt8) : Value := if wrB l then (if inI (ival l) then .tuple #[vi (ival l), .int .i64 0] else .tuple #[vz, .int .i64 1]) else .tuple #[vz, .int .i64 2]

theorem startv (w : World) (nq : Nat) (o : Obj) : ∃ w1, w1 = (w.alloc o).drewN nq ∧ Below w.heap.size w w1 ∧ w1.heap[w.heap.size]? = some o ∧ w1.heap.size = w.heap.size + 1 :=
  ⟨_, rfl, below_drewN ((Below.refl _ _).alloc (Nat.le_refl _) _) _, heap_new w o, by simp⟩
set_option maxHeartbeats 400000 in
theorem readInt_no (s : ByteArray) (w : World) (hs : s.size ≤ 1510) (h : wrB s.data.toList = false) :
    Calls Tryz.prog 120 #[.string s] w fun e w' => e = .returned (.tuple #[vz, .int .i64 2]) ∧ Below w.heap.size w w' := by
  have H := Lib.hid fun w => h ▸ written_any s w hs
  clear h
  go_enter Tryz.func120, Tryz.ntmps120
  go_wp2_with fail
  refine (H.out _).mono ?_
  rintro e w1 ⟨rfl, nq, rfl⟩
  obtain ⟨w1, e1, hb1, hk1, hz1⟩ := startv w nq (.cells #[.int .i64 0, .int .i64 0, .string ⟨#[]⟩] 29 (0, 0))
  rw [← e1]
  clear e1
  obtain ⟨c0, c1, c2, f0, f1, f2⟩ := kept3 (b := w.heap.size) (Below.refl _ w1) (by omega) hk1
  go_wp2_with fail
  exact bodyPost_ret (v := .tuple #[vz, .int .i64 2]) (by simp [results, Tryz.results120, go_sem, c0, c1, c2]) rfl ⟨rfl, below_store3 hb1 (Nat.le_refl _) _ _ _⟩

set_option maxHeartbeats 400000 in
theorem readInt_ok (s : ByteArray) (w : World) (hs : s.size ≤ 1510) (h : wrB s.data.toList = true) (hi : inI (ival s.data.toList) = true) :
    Calls Tryz.prog 120 #[.string s] w fun e w' => e = .returned (.tuple #[vi (ival s.data.toList), .int .i64 0]) ∧ Below w.heap.size w w' := by
  have H := Lib.hid fun w => h ▸ written_any s w hs
  have HA := Lib.hid fun w => Tryz.strconv_Atoi_ok s (by omega) _ ((atoi_of h).1 hi) w
  clear h
  generalize ival s.data.toList = v at *
  clear hi
  go_enter Tryz.func120, Tryz.ntmps120
  go_wp2_with fail
  refine (H.out _).mono ?_
  rintro e w1 ⟨rfl, nq, rfl⟩
  obtain ⟨w1, e1, hb1, hk1, hz1⟩ := startv w nq (.cells #[.int .i64 0, .int .i64 0, .string ⟨#[]⟩] 29 (0, 0))
  rw [← e1]
  clear e1
  go_wp2_with fail
  refine (HA.out _).mono ?_
  rintro e w2 ⟨rfl, hw⟩
  have hb2 : Below w1.heap.size w1 w2 := by
    rcases hw with rfl | ⟨t, rfl⟩
    · exact Below.refl _ _
    · exact ⟨rfl, rfl, rfl, by rw [Lib.bytesWorld_size]; omega, fun j hj => Lib.bytesWorld_at_old w1 5 t j hj⟩
  clear hw
  go_wp2_with fail
  refine (number_any _ _).mono ?_
  rintro e w3 ⟨rfl, rfl⟩
  have hb3 := hb2.alloc hb2.size (.cells #[.int .i64 2, .int .i64 v, .string ⟨#[]⟩] 29)
  obtain ⟨c0, c1, c2, f0, f1, f2⟩ := kept3 (b := w.heap.size) hb3 (by omega) hk1
  go_wp2_with fail
  exact bodyPost_ret (v := .tuple #[vi v, .int .i64 0]) (by simp [results, Tryz.results120, go_sem, c0, c1, c2]) rfl ⟨rfl, below_store3 (hb1.trans (hb3.mono (by omega))) (Nat.le_refl _) _ _ _⟩

set_option maxHeartbeats 400000 in
theorem readInt_far (s : ByteArray) (w : World) (hs : s.size ≤ 1510) (h : wrB s.data.toList = true) (hi : inI (ival s.data.toList) = false) (hf : Far w) :
    Calls Tryz.prog 120 #[.string s] w fun e w' => e = .returned (.tuple #[vz, .int .i64 1]) ∧ Below w.heap.size w w' := by
  have H := Lib.hid fun w => h ▸ written_any s w hs
  have hr := (atoi_of h).2 hi
  have HA : Hid (∀ w, Far w → Calls Tryz.prog 137 #[.string s] w fun e w' => ∃ N, e = .returned (.tuple #[.int .i64 (Lib.atoiSat s.data.toList), .iface 240 (.pointer (some ⟨N, 0, none⟩))]) ∧ Below w.heap.size w w') := Lib.hid fun w ⟨tp, p, hv⟩ =>
    (Tryz.strconv_Atoi_range s (by omega) hr _ w hv (.inr ⟨tp, p, rfl⟩)).mono fun _ _ ⟨N, he, _, _, hb⟩ => ⟨N, he, hb⟩
  have HF := Lib.hid hf
  clear h hr hi hf
  generalize Lib.atoiSat s.data.toList = v at *
  go_enter Tryz.func120, Tryz.ntmps120
  go_wp2_with fail
  refine (H.out _).mono ?_
  rintro e w1 ⟨rfl, nq, rfl⟩
  obtain ⟨w1, e1, hb1, hk1, hz1⟩ := startv w nq (.cells #[.int .i64 0, .int .i64 0, .string ⟨#[]⟩] 29 (0, 0))
  rw [← e1]
  clear e1
  go_wp2_with fail
  refine (HA.out _ (HF.out.keep hb1 (Nat.le_refl _))).mono ?_
  rintro e w2 ⟨N, rfl, hb2⟩
  obtain ⟨c0, c1, c2, f0, f1, f2⟩ := kept3 (b := w.heap.size) hb2 (by omega) hk1
  go_wp2_with fail
  exact bodyPost_ret (v := .tuple #[vz, .int .i64 1]) (by simp [results, Tryz.results120, go_sem, c0, c1, c2]) rfl ⟨rfl, below_store3 (hb1.trans (hb2.mono (by omega))) (Nat.le_refl _) _ _ _⟩

theorem readInt_any (s : ByteArray) (w : World) (hs : s.size ≤ 1510) (hf : Far w) :
    Calls Tryz.prog 120 #[.string s] w fun e w' => e = .returned (intRes s.data.toList) ∧ Below w.heap.size w w' := by
  unfold intRes
  cases h : wrB s.data.toList
  · exact readInt_no s w hs h
  · cases hi : inI (ival s.data.toList)
    · exact readInt_far s w hs h hi hf
    · exact readInt_ok s w hs h hi

/-- What the reading of a text comes to, whole. -/
def readV (l : List UInt8) : Value :=
  if l = [78, 85, 76, 76] then .tuple #[vz, .int .i64 0]
  else if l = [70, 65, 76, 83, 69] then .tuple #[.agg #[.int .i64 1, .int .i64 0, .string ⟨#[]⟩], .int .i64 0]
  else if l = [84, 82, 85, 69] then .tuple #[.agg #[.int .i64 1, .int .i64 1, .string ⟨#[]⟩], .int .i64 0]
  else match l with
    | c :: r => if c = 39 then textRes (readB r) else intRes (c :: r)
    | [] => intRes []

theorem bytes_is {s : ByteArray} {l : List UInt8} (h : s.data.toList = l) : (s.toList == l) = true := by rw [Lib.toList_data, h, beq_self_eq_true]
theorem bytes_not {s : ByteArray} {l : List UInt8} (h : s.data.toList ≠ l) : (s.toList == l) = false := by rw [Lib.toList_data, beq_eq_false_iff_ne]; exact h

set_option maxHeartbeats 400000 in
theorem Read_word (s : ByteArray) (w : World) (h : s.data.toList = [78, 85, 76, 76] ∨ s.data.toList = [70, 65, 76, 83, 69] ∨ s.data.toList = [84, 82, 85, 69]) :
    Calls Tryz.prog 96 #[.string s] w fun e w' => e = .returned (readV s.data.toList) ∧ Below w.heap.size w w' := by
  rcases h with h | h | h
  · have hr : readV s.data.toList = .tuple #[vz, .int .i64 0] := by rw [h]; rfl
    rw [hr]
    have h1 := bytes_is h
    have hz := Lib.hid h
    clear hr hz h
    go_enter Tryz.func96, Tryz.ntmps96
    go_wp2_with fail
    exact bodyPost_ret (v := .tuple #[vz, .int .i64 0]) (by simp [results, Tryz.results96, go_sem]) rfl ⟨rfl, (Below.refl _ _).alloc (Nat.le_refl _) _⟩
  · have hr : readV s.data.toList = .tuple #[.agg #[.int .i64 1, .int .i64 0, .string ⟨#[]⟩], .int .i64 0] := by rw [h]; rfl
    rw [hr]
    have h1 : (s.toList == [78, 85, 76, 76]) = false := bytes_not (by rw [h]; decide)
    have h2 := bytes_is h
    have hz := Lib.hid h
    clear hr hz h
    go_enter Tryz.func96, Tryz.ntmps96
    go_wp2_with fail
    exact bodyPost_ret (v := .tuple #[.agg #[.int .i64 1, .int .i64 0, .string ⟨#[]⟩], .int .i64 0]) (by simp [results, Tryz.results96, go_sem]) rfl ⟨rfl, (Below.refl _ _).alloc (Nat.le_refl _) _⟩
  · have hr : readV s.data.toList = .tuple #[.agg #[.int .i64 1, .int .i64 1, .string ⟨#[]⟩], .int .i64 0] := by rw [h]; rfl
    rw [hr]
    have h1 : (s.toList == [78, 85, 76, 76]) = false := bytes_not (by rw [h]; decide)
    have h2 : (s.toList == [70, 65, 76, 83, 69]) = false := bytes_not (by rw [h]; decide)
    have h3 := bytes_is h
    have hz := Lib.hid h
    clear hr hz h
    go_enter Tryz.func96, Tryz.ntmps96
    go_wp2_with fail
    exact bodyPost_ret (v := .tuple #[.agg #[.int .i64 1, .int .i64 1, .string ⟨#[]⟩], .int .i64 0]) (by simp [results, Tryz.results96, go_sem]) rfl ⟨rfl, (Below.refl _ _).alloc (Nat.le_refl _) _⟩

theorem hasq {c : UInt8} {r : List UInt8} : Lib.hasPrefix (c :: r) [39] = decide (c = 39) := by
  by_cases h : c = 39
  · subst h; rfl
  · rw [decide_eq_false h]; simp [Lib.hasPrefix, List.isPrefixOf, Ne.symm h]

theorem textRes_form (o : Option (List UInt8)) : ∃ k n t e, textRes o = .tuple #[.agg #[.int .i64 k, .int .i64 n, .string t], .int .i64 e] := by
  unfold textRes vz
  split
  · exact ⟨_, _, _, _, rfl⟩
  · split <;> exact ⟨_, _, _, _, rfl⟩
theorem intRes_form (l : List UInt8) : ∃ k n t e, intRes l = .tuple #[.agg #[.int .i64 k, .int .i64 n, .string t], .int .i64 e] := by
  unfold intRes vz vi
  split
  · split <;> exact ⟨_, _, _, _, rfl⟩
  · exact ⟨_, _, _, _, rfl⟩

set_option maxHeartbeats 400000 in
theorem Read_other (s : ByteArray) (w : World) (hs : s.size ≤ 1510) (hf : Far w) (n1 : s.data.toList ≠ [78, 85, 76, 76]) (n2 : s.data.toList ≠ [70, 65, 76, 83, 69]) (n3 : s.data.toList ≠ [84, 82, 85, 69]) :
    Calls Tryz.prog 96 #[.string s] w fun e w' => e = .returned (readV s.data.toList) ∧ Below w.heap.size w w' := by
  have h1 := bytes_not n1
  have h2 := bytes_not n2
  have h3 := bytes_not n3
  obtain ⟨w1, e1, hb1, hk1, hz1⟩ := startv w 0 (.cells #[.int .i64 0, .int .i64 0, .string ⟨#[]⟩] 29 (0, 0))
  have e1' : w1 = w.alloc (.cells #[.int .i64 0, .int .i64 0, .string ⟨#[]⟩] 29 (0, 0)) := e1
  clear e1
  by_cases hq : ∃ r, s.data.toList = 39 :: r
  · obtain ⟨r, hr⟩ := hq
    have HP : Hid (∀ w, Calls Tryz.prog 118 #[.string s, .string ⟨#[39]⟩] w fun e w' => e = .returned (.bool true) ∧ w = w') := Lib.hid fun w => (prefix_any s ⟨#[39]⟩ w).mono fun _ _ ⟨he, hw⟩ => ⟨by rw [he, hr]; rfl, hw⟩
    have e : readV s.data.toList = textRes (readB (s.extract 1 s.size).data.toList) := by
      unfold readV
      rw [tail_bytes hr, if_neg n1, if_neg n2, if_neg n3, hr]
      rfl
    have HR : Hid (∀ w, Calls Tryz.prog 119 #[.string (s.extract 1 s.size)] w fun e w' => e = .returned (readV s.data.toList) ∧ Below w.heap.size w w') := Lib.hid fun w => by
      rw [e]
      exact readText_any _ w (by rw [ByteArray.size_extract]; omega)
    have h0 : (1 : Int) ≤ s.size := by have := size_list hr; simp at this; omega
    obtain ⟨k, n, t, c, hv⟩ := textRes_form (readB (s.extract 1 s.size).data.toList)
    rw [← e] at hv
    rw [hv] at HR ⊢
    clear n1 n2 n3 hr e hv
    go_enter Tryz.func96, Tryz.ntmps96
    go_wp2_with fail
    refine (HP.out _).mono ?_
    rintro e w2 ⟨rfl, rfl⟩
    go_wp2_with fail
    rw [← e1']
    refine (HR.out _).mono ?_
    rintro e w2 ⟨rfl, hb2⟩
    obtain ⟨c0, c1, c2, f0, f1, f2⟩ := kept3 (b := w.heap.size) hb2 (by omega) hk1
    go_wp2_with fail
    exact bodyPost_ret (v := .tuple #[.agg #[.int .i64 k, .int .i64 n, .string t], .int .i64 c]) (by simp [results, Tryz.results96, go_sem, c0, c1, c2]) rfl ⟨rfl, below_store3 (hb1.trans (hb2.mono (by omega))) (Nat.le_refl _) _ _ _⟩
  · have hp : Lib.hasPrefix s.data.toList [39] = false := by
      cases hl : s.data.toList with
      | nil => rfl
      | cons c r => rw [hasq, decide_eq_false_iff_not]; intro e; exact hq ⟨r, by rw [hl, e]⟩
    have HP : Hid (∀ w, Calls Tryz.prog 118 #[.string s, .string ⟨#[39]⟩] w fun e w' => e = .returned (.bool false) ∧ w = w') := Lib.hid fun w => (prefix_any s ⟨#[39]⟩ w).mono fun _ _ ⟨he, hw⟩ => ⟨by rw [he]; exact congrArg (fun b => Ending.returned (.bool b)) hp, hw⟩
    have e : readV s.data.toList = intRes s.data.toList := by
      unfold readV
      rw [if_neg n1, if_neg n2, if_neg n3]
      cases hl : s.data.toList with
      | nil => rfl
      | cons c r => simp only; rw [if_neg (fun e => hq ⟨r, by rw [hl, e]⟩)]
    have HR : Hid (∀ w, Far w → Calls Tryz.prog 120 #[.string s] w fun e w' => e = .returned (readV s.data.toList) ∧ Below w.heap.size w w') := Lib.hid fun w hf => by
      rw [e]
      exact readInt_any _ w hs hf
    have HF := Lib.hid (hf.keep hb1 (Nat.le_refl _))
    obtain ⟨k, n, t, c, hv⟩ := intRes_form s.data.toList
    rw [← e] at hv
    rw [hv] at HR ⊢
    clear n1 n2 n3 hq hp e hv hf
    go_enter Tryz.func96, Tryz.ntmps96
    go_wp2_with fail
    refine (HP.out _).mono ?_
    rintro e w2 ⟨rfl, rfl⟩
    go_wp2_with fail
    rw [← e1']
    refine (HR.out _ HF.out).mono ?_
    rintro e w2 ⟨rfl, hb2⟩
    obtain ⟨c0, c1, c2, f0, f1, f2⟩ := kept3 (b := w.heap.size) hb2 (by omega) hk1
    go_wp2_with fail
    exact bodyPost_ret (v := .tuple #[.agg #[.int .i64 k, .int .i64 n, .string t], .int .i64 c]) (by simp [results, Tryz.results96, go_sem, c0, c1, c2]) rfl ⟨rfl, below_store3 (hb1.trans (hb2.mono (by omega))) (Nat.le_refl _) _ _ _⟩

theorem Read_any (s : ByteArray) (w : World) (hs : s.size ≤ 1510) (hf : Far w) :
    Calls Tryz.prog 96 #[.string s] w fun e w' => e = .returned (readV s.data.toList) ∧ Below w.heap.size w w' := by
  by_cases n1 : s.data.toList = [78, 85, 76, 76]
  · exact Read_word s w (.inl n1)
  by_cases n2 : s.data.toList = [70, 65, 76, 83, 69]
  · exact Read_word s w (.inr (.inl n2))
  by_cases n3 : s.data.toList = [84, 82, 85, 69]
  · exact Read_word s w (.inr (.inr n3))
  exact Read_other s w hs hf n1 n2 n3
end Go.Proofs.YtjaclmoobfeikaaGreatDoor
namespace Go.Proofs.YtjaclmoobfeikaaGreatDoor
open Go.RowKit

def letB (c : UInt8) : Bool := decide (97 ≤ c.toNat) && decide (c.toNat ≤ 122)
/-- May the byte stand at the place? -/
def okAt (i : Nat) (c : UInt8) : Bool := letB c || (decide (i ≠ 0) && (digB c || decide (c.toNat = 95)))
def okUp (s : ByteArray) (k : Nat) : Bool := (List.range k).all fun i => okAt i (s.data.toList.getD i 0)
/-- Is it a name? -/
def nameB (s : ByteArray) : Bool := decide (0 < s.size) && decide (s.size ≤ 20) && okUp s s.size
theorem okUp_step (s : ByteArray) (k : Nat) : okUp s (k + 1) = (okUp s k && okAt k (s.data.toList.getD k 0)) := by
  unfold okUp
  rw [List.range_succ, List.all_append]
  simp
theorem okUp_no {s : ByteArray} {k n : Nat} (hk : k < n) (h : okAt k (s.data.toList.getD k 0) = false) : okUp s n = false := by
  unfold okUp
  rw [List.all_eq_false]
  exact ⟨k, List.mem_range.2 hk, by rw [h]; decide⟩
theorem byte_at {s : ByteArray} {k : Nat} (h : k < s.size) : s.data.toList.getD k 0 = s[k] := by
  have h2 : k < s.data.toList.length := by rw [Array.length_toList]; exact h
  simp only [List.getD, List.getElem?_eq_getElem h2, Option.getD_some]
  rfl
theorem ret_bool6 {a b : Bool} (h : a = b) : Ending.returned (.bool a) = .returned (.bool b) := by rw [h]
theorem letter_any (c : Nat) (y : UInt8) (hy : y.toNat = c) (w : World) : Calls Tryz.prog 154 #[.int .u8 c] w fun e w' => e = .returned (.bool (letB y)) ∧ w = w' := by
  unfold letB
  rw [hy]
  by_cases h1 : 97 ≤ c
  · by_cases h2 : c ≤ 122
    · have h1' : (97 : Int) ≤ c := by omega
      have h2' : (c : Int) ≤ 122 := by omega
      rw [decide_eq_true h1, decide_eq_true h2]
      clear h1 h2 hy
      go_enter Tryz.func154, Tryz.ntmps154
      go_wp2_with fail
      go_ret
      exact ⟨ret_bool6 (by simp; try omega), rfl⟩
    · have h1' : (97 : Int) ≤ c := by omega
      have h2' : (122 : Int) < c := by omega
      rw [decide_eq_true h1, decide_eq_false h2]
      clear h1 h2 hy
      go_enter Tryz.func154, Tryz.ntmps154
      go_wp2_with fail
      go_ret
      exact ⟨ret_bool6 (by simp; try omega), rfl⟩
  · have h1' : (c : Int) < 97 := by omega
    rw [decide_eq_false h1]
    clear h1 hy
    go_enter Tryz.func154, Tryz.ntmps154
    go_wp2_with fail
    go_ret
    exact ⟨ret_bool6 (by simp), rfl⟩
theorem digit_any (c : Nat) (y : UInt8) (hy : y.toNat = c) (w : World) : Calls Tryz.prog 155 #[.int .u8 c] w fun e w' => e = .returned (.bool (digB y)) ∧ w = w' := by
  unfold digB
  rw [hy]
  by_cases h1 : 48 ≤ c
  · by_cases h2 : c ≤ 57
    · have h1' : (48 : Int) ≤ c := by omega
      have h2' : (c : Int) ≤ 57 := by omega
      rw [decide_eq_true h1, decide_eq_true h2]
      clear h1 h2 hy
      go_enter Tryz.func155, Tryz.ntmps155
      go_wp2_with fail
      go_ret
      exact ⟨ret_bool6 (by simp; try omega), rfl⟩
    · have h1' : (48 : Int) ≤ c := by omega
      have h2' : (57 : Int) < c := by omega
      rw [decide_eq_true h1, decide_eq_false h2]
      clear h1 h2 hy
      go_enter Tryz.func155, Tryz.ntmps155
      go_wp2_with fail
      go_ret
      exact ⟨ret_bool6 (by simp; try omega), rfl⟩
  · have h1' : (c : Int) < 48 := by omega
    rw [decide_eq_false h1]
    clear h1 hy
    go_enter Tryz.func155, Tryz.ntmps155
    go_wp2_with fail
    go_ret
    exact ⟨ret_bool6 (by simp), rfl⟩

/-- What an unfinished name's next byte may be. -/
theorem okAt_cases (k : Nat) (y : UInt8) : (letB y = true ∧ okAt k y = true) ∨ (letB y = false ∧ ((k = 0 ∧ okAt k y = false) ∨ (k ≠ 0 ∧ ((digB y = true ∧ okAt k y = true) ∨ (digB y = false ∧ ((y.toNat = 95 ∧ okAt k y = true) ∨ (y.toNat ≠ 95 ∧ okAt k y = false))))))) := by
  unfold okAt
  cases letB y <;> cases digB y <;> by_cases h0 : k = 0 <;> by_cases h5 : y.toNat = 95 <;> simp [h0, h5]
set_option maxHeartbeats 1600000 in
theorem name_any (s : ByteArray) (w : World) : Calls Tryz.prog 142 #[.string s] w fun e w' => e = .returned (.bool (nameB s)) ∧ w = w' := by
  by_cases h0 : s.size = 0
  · have e0 : s = ⟨#[]⟩ := by
      apply ByteArray.ext
      exact Array.eq_empty_of_size_eq_zero h0
    subst e0
    go_enter Tryz.func142, Tryz.ntmps142
    go_wp2_with fail
    go_ret
    exact ⟨ret_bool6 (by decide), rfl⟩
  · have hne : s.toList.isEmpty = false := by
      rw [Lib.toList_data, Bool.eq_false_iff]
      intro h
      have := List.isEmpty_iff.1 h
      apply h0
      have h2 := congrArg List.length this
      rw [Array.length_toList] at h2
      exact h2
    by_cases h20 : s.size ≤ 20
    · have h20' : (s.size : Int) ≤ 20 := by omega
      go_enter Tryz.func142, Tryz.ntmps142
      go_wp2_with fail
      go_loop [13] (fun i => ∃ (k : Nat), i = .int .i64 k ∧ k ≤ s.size ∧ Hid (okUp s k = true)) (fun i => s.size - (intOf i).toNat)
      case atStart => exact ⟨0, rfl, by omega, Lib.hid rfl⟩
      case round =>
        obtain ⟨k, rfl, hk, U⟩ := hrel
        by_cases hlt : k < s.size
        · have hb := byte_at hlt
          have i0 : (0 : Int) ≤ k := by omega
          have i1 : (k : Int) < s.size := by omega
          have HL := Lib.hid (letter_any _ s[k] rfl)
          have HD := Lib.hid (digit_any _ s[k] rfl)
          have hst := okUp_step s k
          rw [U.out, hb, Bool.true_and] at hst
          have HN : Hid (okAt k s[k] = false → nameB s = false) := Lib.hid fun h => by
            have := okUp_no (s := s) hlt (by rw [hb]; exact h)
            unfold nameB
            rw [this]; simp
          have HS := Lib.hid hst
          obtain ⟨y, hy⟩ : ∃ y, y = s[k] := ⟨_, rfl⟩
          have key := okAt_cases k s[k]
          have Hy := Lib.hid hy
          rw [← hy] at HL HD HN HS key
          have hix : (s[k]).toNat = y.toNat := by rw [hy]
          clear hst hb hy
          rcases key with ⟨e1, e2⟩ | ⟨e1, ⟨e2, e3⟩ | ⟨e2, ⟨e3, e4⟩ | ⟨e3, ⟨e4, e5⟩ | ⟨e4, e5⟩⟩⟩⟩
          · rw [e1] at HL
            rw [e2] at HS
            go_wp2_with fail
            refine (HL.out _).mono ?_
            rintro e w1 ⟨rfl, rfl⟩
            go_wp2_with fail
            go_round
            case rel => exact ⟨k + 1, by go_num, by omega, HS⟩
            case measure => simp [intOf]; omega
          · rw [e1] at HL
            have hn := HN.out e3
            subst e2
            clear e3
            go_wp2_with fail
            refine (HL.out _).mono ?_
            rintro e w1 ⟨rfl, rfl⟩
            go_wp2_with fail
            go_ret
            exact ⟨ret_bool6 hn.symm, rfl⟩
          · rw [e1] at HL
            rw [e3] at HD
            rw [e4] at HS
            have tk : ¬ (k : Int) = 0 := by omega
            clear e2
            go_wp2_with fail
            refine (HL.out _).mono ?_
            rintro e w1 ⟨rfl, rfl⟩
            go_wp2_with fail
            refine (HD.out _).mono ?_
            rintro e w1 ⟨rfl, rfl⟩
            go_wp2_with fail
            go_round
            case rel => exact ⟨k + 1, by go_num, by omega, HS⟩
            case measure => simp [intOf]; omega
          · rw [e1] at HL
            rw [e3] at HD
            rw [e5] at HS
            have tk : ¬ (k : Int) = 0 := by omega
            have ty : ((y.toNat : Int) != 95) = false := by rw [bne_eq_false_iff_eq]; omega
            clear e2 e4
            go_wp2_with fail
            refine (HL.out _).mono ?_
            rintro e w1 ⟨rfl, rfl⟩
            go_wp2_with fail
            refine (HD.out _).mono ?_
            rintro e w1 ⟨rfl, rfl⟩
            go_wp2_with fail
            go_round
            case rel => exact ⟨k + 1, by go_num, by omega, HS⟩
            case measure => simp [intOf]; omega
          · rw [e1] at HL
            rw [e3] at HD
            have tk : ¬ (k : Int) = 0 := by omega
            have ty : ((y.toNat : Int) != 95) = true := by rw [bne_iff_ne]; omega
            have hn := HN.out e5
            clear e2 e4 e5
            go_wp2_with fail
            refine (HL.out _).mono ?_
            rintro e w1 ⟨rfl, rfl⟩
            go_wp2_with fail
            refine (HD.out _).mono ?_
            rintro e w1 ⟨rfl, rfl⟩
            go_wp2_with fail
            go_ret
            exact ⟨ret_bool6 hn.symm, rfl⟩
        · obtain rfl : k = s.size := by omega
          go_wp2_with fail
          go_ret
          exact ⟨ret_bool6 (by unfold nameB; rw [U.out]; simp; try omega), rfl⟩
    · have h20' : (20 : Int) < s.size := by omega
      go_enter Tryz.func142, Tryz.ntmps142
      go_wp2_with fail
      go_ret
      exact ⟨ret_bool6 (by unfold nameB; simp; try omega), rfl⟩
set_option maxHeartbeats 3200000 in
theorem refName_any (s : ByteArray) (w : World) (hsz : s.size ≤ 9223372036854775807) : Calls Tryz.prog 44 #[.string s] w fun e w' => e = .returned (.bool (nameB s)) ∧ w = w' := by
  by_cases h0 : s.size = 0
  · have e0 : s = ⟨#[]⟩ := by
      apply ByteArray.ext
      exact Array.eq_empty_of_size_eq_zero h0
    subst e0
    go_enter Tryz.func44, Tryz.ntmps44
    go_wp2_with fail
    go_loop [3] (fun i => i = .int .i64 0) (fun _ => 0)
    case atStart => rfl
    case round =>
      subst hrel
      go_wp2_with fail
      go_ret
      exact ⟨ret_bool6 (by decide), rfl⟩
  · have hne : s.toList.isEmpty = false := by
      rw [Lib.toList_data, Bool.eq_false_iff]
      intro h
      have := List.isEmpty_iff.1 h
      apply h0
      have h2 := congrArg List.length this
      rw [Array.length_toList] at h2
      exact h2
    go_enter Tryz.func44, Tryz.ntmps44
    go_wp2_with fail
    go_loop [3] (fun i => ∃ (k : Nat), i = .int .i64 k ∧ k ≤ s.size ∧ Hid (okUp s k = true)) (fun i => s.size - (intOf i).toNat)
    case atStart => exact ⟨0, rfl, by omega, Lib.hid rfl⟩
    case round =>
      obtain ⟨k, rfl, hk, U⟩ := hrel
      by_cases hlt : k < s.size
      · have hb := byte_at hlt
        have i0 : (0 : Int) ≤ k := by omega
        have i1 : (k : Int) < s.size := by omega
        have hst := okUp_step s k
        rw [U.out, hb, Bool.true_and] at hst
        have HN : Hid (okAt k s[k] = false → nameB s = false) := Lib.hid fun h => by
          have := okUp_no (s := s) hlt (by rw [hb]; exact h)
          unfold nameB
          rw [this]; simp
        have HS := Lib.hid hst
        obtain ⟨y, hy⟩ : ∃ y, y = s[k] := ⟨_, rfl⟩
        rw [← hy] at HN HS
        have hix : (s[k]).toNat = y.toNat := by rw [hy]
        have key : (okAt k y = true ∧ (((97 : Int) ≤ y.toNat ∧ (y.toNat : Int) ≤ 122) ∨ (¬ (k : Int) = 0 ∧ (48 : Int) ≤ y.toNat ∧ (y.toNat : Int) ≤ 57) ∨ (¬ (k : Int) = 0 ∧ (y.toNat : Int) = 95)))
            ∨ (okAt k y = false ∧ ((y.toNat : Int) < 48 ∨ ((57 : Int) < y.toNat ∧ (y.toNat : Int) < 95) ∨ (y.toNat : Int) = 96 ∨ (122 : Int) < y.toNat ∨ (k = 0 ∧ (48 : Int) ≤ y.toNat ∧ (y.toNat : Int) ≤ 57) ∨ (k = 0 ∧ (y.toNat : Int) = 95))) := by
          by_cases h : okAt k y = true
          · refine .inl ⟨h, ?_⟩
            unfold okAt letB digB at h
            simp at h
            omega
          · refine .inr ⟨by simpa using h, ?_⟩
            unfold okAt letB digB at h
            simp at h
            omega
        clear hst hb hy
        rcases key with ⟨e1, h⟩ | ⟨e1, h⟩
        · rw [e1] at HS
          have HS' := Lib.hid HS.out
          clear HN HS
          rcases h with ⟨h1, h2⟩ | ⟨h0, h1, h2⟩ | ⟨h0, h1⟩
          · go_wp2_with fail
            go_round
            case rel => exact ⟨k + 1, by go_num, by omega, HS'⟩
            case measure => simp [intOf]; omega
          · have h3 : (y.toNat : Int) < 97 := by omega
            go_wp2_with fail
            go_round
            case rel => exact ⟨k + 1, by go_num, by omega, HS'⟩
            case measure => simp [intOf]; omega
          · have h3 : (y.toNat : Int) < 97 := by omega
            have h4 : (57 : Int) < (y.toNat : Int) := by omega
            have h5 : ((y.toNat : Int) == 95) = true := beq_iff_eq.2 (by omega)
            have h6 : (48 : Int) ≤ (y.toNat : Int) := by omega
            clear h1
            go_wp2_with fail
            go_round
            case rel => exact ⟨k + 1, by go_num, by omega, HS'⟩
            case measure => simp [intOf]; omega
        · have hn := HN.out e1
          clear HN HS e1
          rcases h with h1 | ⟨h1, h2⟩ | h1 | h1 | ⟨rfl, h1, h2⟩ | ⟨rfl, h1⟩
          · have h3 : (y.toNat : Int) < 97 := by omega
            have h5 : ((y.toNat : Int) == 95) = false := beq_eq_false_iff_ne.2 (by omega)
            go_wp2_with fail
            go_ret
            exact ⟨by first | rfl | exact ret_bool6 hn.symm, rfl⟩
          · have h3 : (y.toNat : Int) < 97 := by omega
            have h4 : (48 : Int) ≤ (y.toNat : Int) := by omega
            have h5 : ((y.toNat : Int) == 95) = false := beq_eq_false_iff_ne.2 (by omega)
            go_wp2_with fail
            go_ret
            exact ⟨by first | rfl | exact ret_bool6 hn.symm, rfl⟩
          · have h3 : (y.toNat : Int) < 97 := by omega
            have h4 : (48 : Int) ≤ (y.toNat : Int) := by omega
            have h6 : (57 : Int) < (y.toNat : Int) := by omega
            have h5 : ((y.toNat : Int) == 95) = false := beq_eq_false_iff_ne.2 (by omega)
            clear h1
            go_wp2_with fail
            go_ret
            exact ⟨by first | rfl | exact ret_bool6 hn.symm, rfl⟩
          · have h3 : (97 : Int) ≤ (y.toNat : Int) := by omega
            have h4 : (48 : Int) ≤ (y.toNat : Int) := by omega
            have h7 : decide ((y.toNat : Int) ≤ 122) = false := decide_eq_false (by omega)
            have h8 : decide ((y.toNat : Int) ≤ 57) = false := decide_eq_false (by omega)
            have h6 : (57 : Int) < (y.toNat : Int) := by omega
            have h5 : ((y.toNat : Int) == 95) = false := beq_eq_false_iff_ne.2 (by omega)
            go_wp2_with fail
            go_ret
            exact ⟨by first | rfl | exact ret_bool6 hn.symm, rfl⟩
          · have h3 : (y.toNat : Int) < 97 := by omega
            go_wp2_with fail
            go_ret
            exact ⟨by first | rfl | exact ret_bool6 hn.symm, rfl⟩
          · have h3 : (y.toNat : Int) < 97 := by omega
            have h4 : (48 : Int) ≤ (y.toNat : Int) := by omega
            have h6 : (57 : Int) < (y.toNat : Int) := by omega
            have h5 : ((y.toNat : Int) == 95) = true := beq_iff_eq.2 h1
            clear h1
            go_wp2_with fail
            go_ret
            exact ⟨by first | rfl | exact ret_bool6 hn.symm, rfl⟩
      · obtain rfl : k = s.size := by omega
        by_cases h20 : s.size ≤ 20
        · have h20' : (s.size : Int) ≤ 20 := by omega
          go_wp2_with fail
          go_ret
          have hn : nameB s = true := by unfold nameB; rw [U.out, decide_eq_true (show 0 < s.size by omega), decide_eq_true h20]; rfl
          exact ⟨ret_bool6 (by rw [hn]; try (first | rfl | (simp; done) | (simp; omega))), rfl⟩
        · have h20' : (20 : Int) < s.size := by omega
          go_wp2_with fail
          go_ret
          have hn : nameB s = false := by unfold nameB; rw [decide_eq_false h20]; simp
          exact ⟨ret_bool6 (by rw [hn]; try (first | rfl | (simp; done) | (simp; omega))), rfl⟩
end Go.Proofs.YtjaclmoobfeikaaGreatDoor
