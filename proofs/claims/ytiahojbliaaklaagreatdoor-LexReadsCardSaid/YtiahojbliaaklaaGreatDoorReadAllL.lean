/- Contracts of value.readInt and value.Read. -/
import Derived.Test.YtiahojbliaaklaaGreatDoorReadIntL
namespace Go.Proofs.YtiahojbliaaklaaGreatDoor
open Go.RowKit

/-- The variable strconv.ErrRange holds something. -/
def Far (w : World) : Prop := ∃ tp p, w.cell? ⟨7, 0, none⟩ = some (.iface tp p)
theorem Far.keep {w w' : World} (h : Far w) {B : Nat} (hb : Below B w w') (hB : w.heap.size ≤ B) : Far w' := by
  obtain ⟨tp, p, h⟩ := h
  exact ⟨tp, p, by rw [hb.cell (Nat.lt_of_lt_of_le (World.block_lt_of_cell? w _ h) hB)]; exact h⟩

/-- What the reading of an int comes to. -/
def intRes (l : List UInt8) : Value := if wrB l then (if inI (ival l) then .tuple #[vi (ival l), .int .i64 0] else .tuple #[vz, .int .i64 1]) else .tuple #[vz, .int .i64 2]

theorem startv (w : World) (nq : Nat) (o : Obj) : ∃ w1, w1 = (w.alloc o).drewN nq ∧ Below w.heap.size w w1 ∧ w1.heap[w.heap.size]? = some o ∧ w1.heap.size = w.heap.size + 1 :=
  ⟨_, rfl, below_drewN ((Below.refl _ _).alloc (Nat.le_refl _) _) _, heap_new w o, by simp⟩
theorem kept3' {w1 w2 : World} {b : Nat} {v0 v1 v2 : Value} {T : TypeId} (hb : Below w1.heap.size w1 w2) (hB : b < w1.heap.size) (hcs : w1.heap[b]? = some (.cells #[v0, v1, v2] T (0, 0))) : w2.heap[b]? = some (.cells #[v0, v1, v2] T (0, 0)) := (hb.block b hB).trans hcs

set_option maxHeartbeats 400000 in
theorem readInt_no (s : ByteArray) (w : World) (hs : s.size ≤ 1510) (h : wrB s.data.toList = false) :
    Calls Tryz.prog 47 #[.string s] w fun e w' => e = .returned (.tuple #[vz, .int .i64 2]) ∧ Below w.heap.size w w' := by
  have H := Lib.hid fun w => h ▸ written_any s w hs
  clear h
  go_enter Tryz.func47, Tryz.ntmps47
  go_wp2_with fail
  refine (H.out _).mono ?_
  rintro e w1 ⟨rfl, nq, rfl⟩
  obtain ⟨w1, e1, hb1, hk1, hz1⟩ := startv w nq (.cells #[.int .i64 0, .int .i64 0, .string ⟨#[]⟩] 63 (0, 0))
  rw [← e1]
  clear e1
  obtain ⟨c0, c1, c2, f0, f1, f2⟩ := kept3 (b := w.heap.size) (Below.refl _ w1) (by omega) hk1
  go_wp2_with fail
  exact bodyPost_ret (v := .tuple #[vz, .int .i64 2]) (by simp [results, Tryz.results47, go_sem, c0, c1, c2]) rfl ⟨rfl, below_store3 hb1 (Nat.le_refl _) _ _ _⟩

set_option maxHeartbeats 400000 in
theorem readInt_ok (s : ByteArray) (w : World) (hs : s.size ≤ 1510) (h : wrB s.data.toList = true) (hi : inI (ival s.data.toList) = true) :
    Calls Tryz.prog 47 #[.string s] w fun e w' => e = .returned (.tuple #[vi (ival s.data.toList), .int .i64 0]) ∧ Below w.heap.size w w' := by
  have H := Lib.hid fun w => h ▸ written_any s w hs
  have HA := Lib.hid fun w => Tryz.strconv_Atoi_ok s (by omega) _ ((atoi_of h).1 hi) w
  clear h
  generalize ival s.data.toList = v at *
  clear hi
  go_enter Tryz.func47, Tryz.ntmps47
  go_wp2_with fail
  refine (H.out _).mono ?_
  rintro e w1 ⟨rfl, nq, rfl⟩
  obtain ⟨w1, e1, hb1, hk1, hz1⟩ := startv w nq (.cells #[.int .i64 0, .int .i64 0, .string ⟨#[]⟩] 63 (0, 0))
  rw [← e1]
  clear e1
  go_wp2_with fail
  refine (HA.out _).mono ?_
  rintro e w2 ⟨rfl, hw⟩
  have hb2 : Below w1.heap.size w1 w2 := by
    rcases hw with rfl | ⟨t, rfl⟩
    · exact Below.refl _ _
    · exact ⟨rfl, rfl, rfl, by rw [Lib.bytesWorld_size]; omega, fun j hj => Lib.bytesWorld_at_old w1 5 t j hj⟩
  clear hw
  go_wp2_with fail
  refine (number_any _ _).mono ?_
  rintro e w3 ⟨rfl, rfl⟩
  have hb3 := hb2.alloc hb2.size (.cells #[.int .i64 2, .int .i64 v, .string ⟨#[]⟩] 63)
  obtain ⟨c0, c1, c2, f0, f1, f2⟩ := kept3 (b := w.heap.size) hb3 (by omega) hk1
  go_wp2_with fail
  exact bodyPost_ret (v := .tuple #[vi v, .int .i64 0]) (by simp [results, Tryz.results47, go_sem, c0, c1, c2]) rfl ⟨rfl, below_store3 (hb1.trans (hb3.mono (by omega))) (Nat.le_refl _) _ _ _⟩

set_option maxHeartbeats 400000 in
theorem readInt_far (s : ByteArray) (w : World) (hs : s.size ≤ 1510) (h : wrB s.data.toList = true) (hi : inI (ival s.data.toList) = false) (hf : Far w) :
    Calls Tryz.prog 47 #[.string s] w fun e w' => e = .returned (.tuple #[vz, .int .i64 1]) ∧ Below w.heap.size w w' := by
  have H := Lib.hid fun w => h ▸ written_any s w hs
  have hr := (atoi_of h).2 hi
  have HA : Hid (∀ w, Far w → Calls Tryz.prog 53 #[.string s] w fun e w' => ∃ N, e = .returned (.tuple #[.int .i64 (Lib.atoiSat s.data.toList), .iface 110 (.pointer (some ⟨N, 0, none⟩))]) ∧ Below w.heap.size w w') := Lib.hid fun w ⟨tp, p, hv⟩ =>
    (Tryz.strconv_Atoi_range s (by omega) hr _ w hv (.inr ⟨tp, p, rfl⟩)).mono fun _ _ ⟨N, he, _, _, hb⟩ => ⟨N, he, hb⟩
  have HF := Lib.hid hf
  clear h hr hi hf
  generalize Lib.atoiSat s.data.toList = v at *
  go_enter Tryz.func47, Tryz.ntmps47
  go_wp2_with fail
  refine (H.out _).mono ?_
  rintro e w1 ⟨rfl, nq, rfl⟩
  obtain ⟨w1, e1, hb1, hk1, hz1⟩ := startv w nq (.cells #[.int .i64 0, .int .i64 0, .string ⟨#[]⟩] 63 (0, 0))
  rw [← e1]
  clear e1
  go_wp2_with fail
  refine (HA.out _ (HF.out.keep hb1 (Nat.le_refl _))).mono ?_
  rintro e w2 ⟨N, rfl, hb2⟩
  obtain ⟨c0, c1, c2, f0, f1, f2⟩ := kept3 (b := w.heap.size) hb2 (by omega) hk1
  go_wp2_with fail
  exact bodyPost_ret (v := .tuple #[vz, .int .i64 1]) (by simp [results, Tryz.results47, go_sem, c0, c1, c2]) rfl ⟨rfl, below_store3 (hb1.trans (hb2.mono (by omega))) (Nat.le_refl _) _ _ _⟩

theorem readInt_any (s : ByteArray) (w : World) (hs : s.size ≤ 1510) (hf : Far w) :
    Calls Tryz.prog 47 #[.string s] w fun e w' => e = .returned (intRes s.data.toList) ∧ Below w.heap.size w w' := by
  unfold intRes
  cases h : wrB s.data.toList
  · exact readInt_no s w hs h
  · cases hi : inI (ival s.data.toList)
    · exact readInt_far s w hs h hi hf
    · exact readInt_ok s w hs h hi

/-- What the reading of a text comes to, whole. -/
def readV (l : List UInt8) : Value :=
  if l = [78, 85, 76, 76] then .tuple #[vz, .int .i64 0]
  else if l = [70, 65, 76, 83, 69] then .tuple #[.agg #[.int .i64 1, .int .i64 0, .string ⟨#[]⟩], .int .i64 0]
  else if l = [84, 82, 85, 69] then .tuple #[.agg #[.int .i64 1, .int .i64 1, .string ⟨#[]⟩], .int .i64 0]
  else match l with
    | c :: r => if c = 39 then textRes (readB r) else intRes (c :: r)
    | [] => intRes []

theorem bytes_is {s : ByteArray} {l : List UInt8} (h : s.data.toList = l) : (s.toList == l) = true := by rw [Lib.toList_data, h, beq_self_eq_true]
theorem bytes_not {s : ByteArray} {l : List UInt8} (h : s.data.toList ≠ l) : (s.toList == l) = false := by rw [Lib.toList_data, beq_eq_false_iff_ne]; exact h

set_option maxHeartbeats 400000 in
theorem Read_word (s : ByteArray) (w : World) (h : s.data.toList = [78, 85, 76, 76] ∨ s.data.toList = [70, 65, 76, 83, 69] ∨ s.data.toList = [84, 82, 85, 69]) :
    Calls Tryz.prog 41 #[.string s] w fun e w' => e = .returned (readV s.data.toList) ∧ Below w.heap.size w w' := by
  rcases h with h | h | h
  · have hr : readV s.data.toList = .tuple #[vz, .int .i64 0] := by rw [h]; rfl
    rw [hr]
    have h1 := bytes_is h
    have hz := Lib.hid h
    clear hr hz h
    go_enter Tryz.func41, Tryz.ntmps41
    go_wp2_with fail
    exact bodyPost_ret (v := .tuple #[vz, .int .i64 0]) (by simp [results, Tryz.results41, go_sem]) rfl ⟨rfl, (Below.refl _ _).alloc (Nat.le_refl _) _⟩
  · have hr : readV s.data.toList = .tuple #[.agg #[.int .i64 1, .int .i64 0, .string ⟨#[]⟩], .int .i64 0] := by rw [h]; rfl
    rw [hr]
    have h1 : (s.toList == [78, 85, 76, 76]) = false := bytes_not (by rw [h]; decide)
    have h2 := bytes_is h
    have hz := Lib.hid h
    clear hr hz h
    go_enter Tryz.func41, Tryz.ntmps41
    go_wp2_with fail
    exact bodyPost_ret (v := .tuple #[.agg #[.int .i64 1, .int .i64 0, .string ⟨#[]⟩], .int .i64 0]) (by simp [results, Tryz.results41, go_sem]) rfl ⟨rfl, (Below.refl _ _).alloc (Nat.le_refl _) _⟩
  · have hr : readV s.data.toList = .tuple #[.agg #[.int .i64 1, .int .i64 1, .string ⟨#[]⟩], .int .i64 0] := by rw [h]; rfl
    rw [hr]
    have h1 : (s.toList == [78, 85, 76, 76]) = false := bytes_not (by rw [h]; decide)
    have h2 : (s.toList == [70, 65, 76, 83, 69]) = false := bytes_not (by rw [h]; decide)
    have h3 := bytes_is h
    have hz := Lib.hid h
    clear hr hz h
    go_enter Tryz.func41, Tryz.ntmps41
    go_wp2_with fail
    exact bodyPost_ret (v := .tuple #[.agg #[.int .i64 1, .int .i64 1, .string ⟨#[]⟩], .int .i64 0]) (by simp [results, Tryz.results41, go_sem]) rfl ⟨rfl, (Below.refl _ _).alloc (Nat.le_refl _) _⟩

theorem hasq {c : UInt8} {r : List UInt8} : Lib.hasPrefix (c :: r) [39] = decide (c = 39) := by
  by_cases h : c = 39
  · subst h; rfl
  · rw [decide_eq_false h]; simp [Lib.hasPrefix, List.isPrefixOf, Ne.symm h]

theorem textRes_form (o : Option (List UInt8)) : ∃ k n t e, textRes o = .tuple #[.agg #[.int .i64 k, .int .i64 n, .string t], .int .i64 e] := by
  unfold textRes vz
  split
  · exact ⟨_, _, _, _, rfl⟩
  · split <;> exact ⟨_, _, _, _, rfl⟩
theorem intRes_form (l : List UInt8) : ∃ k n t e, intRes l = .tuple #[.agg #[.int .i64 k, .int .i64 n, .string t], .int .i64 e] := by
  unfold intRes vz vi
  split
  · split <;> exact ⟨_, _, _, _, rfl⟩
  · exact ⟨_, _, _, _, rfl⟩

set_option maxHeartbeats 400000 in
theorem Read_other (s : ByteArray) (w : World) (hs : s.size ≤ 1510) (hf : Far w) (n1 : s.data.toList ≠ [78, 85, 76, 76]) (n2 : s.data.toList ≠ [70, 65, 76, 83, 69]) (n3 : s.data.toList ≠ [84, 82, 85, 69]) :
    Calls Tryz.prog 41 #[.string s] w fun e w' => e = .returned (readV s.data.toList) ∧ Below w.heap.size w w' := by
  have h1 := bytes_not n1
  have h2 := bytes_not n2
  have h3 := bytes_not n3
  obtain ⟨w1, e1, hb1, hk1, hz1⟩ := startv w 0 (.cells #[.int .i64 0, .int .i64 0, .string ⟨#[]⟩] 63 (0, 0))
  have e1' : w1 = w.alloc (.cells #[.int .i64 0, .int .i64 0, .string ⟨#[]⟩] 63 (0, 0)) := e1
  clear e1
  by_cases hq : ∃ r, s.data.toList = 39 :: r
  · obtain ⟨r, hr⟩ := hq
    have HP : Hid (∀ w, Calls Tryz.prog 40 #[.string s, .string ⟨#[39]⟩] w fun e w' => e = .returned (.bool true) ∧ w = w') := Lib.hid fun w => (prefix_any s ⟨#[39]⟩ w).mono fun _ _ ⟨he, hw⟩ => ⟨by rw [he, hr]; rfl, hw⟩
    have e : readV s.data.toList = textRes (readB (s.extract 1 s.size).data.toList) := by
      unfold readV
      rw [tail_bytes hr, if_neg n1, if_neg n2, if_neg n3, hr]
      rfl
    have HR : Hid (∀ w, Calls Tryz.prog 46 #[.string (s.extract 1 s.size)] w fun e w' => e = .returned (readV s.data.toList) ∧ Below w.heap.size w w') := Lib.hid fun w => by
      rw [e]
      exact readText_any _ w (by rw [ByteArray.size_extract]; omega)
    have h0 : (1 : Int) ≤ s.size := by have := size_list hr; simp at this; omega
    obtain ⟨k, n, t, c, hv⟩ := textRes_form (readB (s.extract 1 s.size).data.toList)
    rw [← e] at hv
    rw [hv] at HR ⊢
    clear n1 n2 n3 hr e hv
    go_enter Tryz.func41, Tryz.ntmps41
    go_wp2_with fail
    refine (HP.out _).mono ?_
    rintro e w2 ⟨rfl, rfl⟩
    go_wp2_with fail
    rw [← e1']
    refine (HR.out _).mono ?_
    rintro e w2 ⟨rfl, hb2⟩
    obtain ⟨c0, c1, c2, f0, f1, f2⟩ := kept3 (b := w.heap.size) hb2 (by omega) hk1
    go_wp2_with fail
    exact bodyPost_ret (v := .tuple #[.agg #[.int .i64 k, .int .i64 n, .string t], .int .i64 c]) (by simp [results, Tryz.results41, go_sem, c0, c1, c2]) rfl ⟨rfl, below_store3 (hb1.trans (hb2.mono (by omega))) (Nat.le_refl _) _ _ _⟩
  · have hp : Lib.hasPrefix s.data.toList [39] = false := by
      cases hl : s.data.toList with
      | nil => rfl
      | cons c r => rw [hasq, decide_eq_false_iff_not]; intro e; exact hq ⟨r, by rw [hl, e]⟩
    have HP : Hid (∀ w, Calls Tryz.prog 40 #[.string s, .string ⟨#[39]⟩] w fun e w' => e = .returned (.bool false) ∧ w = w') := Lib.hid fun w => (prefix_any s ⟨#[39]⟩ w).mono fun _ _ ⟨he, hw⟩ => ⟨by rw [he]; exact congrArg (fun b => Ending.returned (.bool b)) hp, hw⟩
    have e : readV s.data.toList = intRes s.data.toList := by
      unfold readV
      rw [if_neg n1, if_neg n2, if_neg n3]
      cases hl : s.data.toList with
      | nil => rfl
      | cons c r => simp only; rw [if_neg (fun e => hq ⟨r, by rw [hl, e]⟩)]
    have HR : Hid (∀ w, Far w → Calls Tryz.prog 47 #[.string s] w fun e w' => e = .returned (readV s.data.toList) ∧ Below w.heap.size w w') := Lib.hid fun w hf => by
      rw [e]
      exact readInt_any _ w hs hf
    have HF := Lib.hid (hf.keep hb1 (Nat.le_refl _))
    obtain ⟨k, n, t, c, hv⟩ := intRes_form s.data.toList
    rw [← e] at hv
    rw [hv] at HR ⊢
    clear n1 n2 n3 hq hp e hv hf
    go_enter Tryz.func41, Tryz.ntmps41
    go_wp2_with fail
    refine (HP.out _).mono ?_
    rintro e w2 ⟨rfl, rfl⟩
    go_wp2_with fail
    rw [← e1']
    refine (HR.out _ HF.out).mono ?_
    rintro e w2 ⟨rfl, hb2⟩
    obtain ⟨c0, c1, c2, f0, f1, f2⟩ := kept3 (b := w.heap.size) hb2 (by omega) hk1
    go_wp2_with fail
    exact bodyPost_ret (v := .tuple #[.agg #[.int .i64 k, .int .i64 n, .string t], .int .i64 c]) (by simp [results, Tryz.results41, go_sem, c0, c1, c2]) rfl ⟨rfl, below_store3 (hb1.trans (hb2.mono (by omega))) (Nat.le_refl _) _ _ _⟩

theorem Read_any (s : ByteArray) (w : World) (hs : s.size ≤ 1510) (hf : Far w) :
    Calls Tryz.prog 41 #[.string s] w fun e w' => e = .returned (readV s.data.toList) ∧ Below w.heap.size w w' := by
  by_cases n1 : s.data.toList = [78, 85, 76, 76]
  · exact Read_word s w (.inl n1)
  by_cases n2 : s.data.toList = [70, 65, 76, 83, 69]
  · exact Read_word s w (.inr (.inl n2))
  by_cases n3 : s.data.toList = [84, 82, 85, 69]
  · exact Read_word s w (.inr (.inr n3))
  exact Read_other s w hs hf n1 n2 n3
end Go.Proofs.YtiahojbliaaklaaGreatDoor
