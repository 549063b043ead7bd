/- Contracts of the reference's Text and what it calls. -/
import Derived.Test.YtiahojbliaaklaaDoorTextsMath
namespace Go.Proofs.YtiahojbliaaklaaDoor
open Go.RowKit

theorem ret_bytes {a b : ByteArray} (h : a.data.toList = b.data.toList) : Ending.returned (.string a) = .returned (.string b) := by rw [bytes_ext h]
theorem refSize_any (n : Int) (w : World) (hn : inI n = true) :
    Calls Tryd.prog 18 #[.int .i64 n] w fun e w' => e = .returned (.int .u64 n.natAbs) ∧ w = w' := by
  rw [inI_iff] at hn
  go_enter Tryd.func18, Tryd.ntmps18
  go_wp2_with fail
  · have h := ‹n < 0›
    go_ret
    refine ⟨ret_int ?_, rfl⟩
    simp only [IntKind.wrap, IntKind.signed, IntKind.bits]
    simp
    omega
  · have h := ‹0 ≤ n›
    go_ret
    exact ⟨ret_int (by omega), rfl⟩

theorem refHex_any (n : Nat) (w : World) (hn : n < 16) :
    Calls Tryd.prog 19 #[.int .u8 n] w fun e w' => e = .returned (.int .u8 (hexd n).toNat) ∧ w = w' := by
  have h : ((hexd n).toNat : Int) = (if (n : Int) < 10 then 48 + n else 87 + n : Int) := by
    have : ∀ i : Fin 16, ((hexd i.val).toNat : Int) = (if (i.val : Int) < 10 then 48 + i.val else 87 + i.val : Int) := by decide
    exact this ⟨n, hn⟩
  generalize hv : ((hexd n).toNat : Int) = v at *
  have H := Lib.hid h
  clear h hv
  go_enter Tryd.func19, Tryd.ntmps19
  go_wp2_with fail
  · go_ret
    exact ⟨ret_int (by rw [H.out, if_pos ‹_›]), rfl⟩
  · have h := ‹10 ≤ (n : Int)›
    go_ret
    exact ⟨ret_int (by rw [H.out, if_neg (by omega)]; omega), rfl⟩

set_option maxRecDepth 100000 in
theorem refDigits_small (u : Nat) (w : World) (hu : u < 10) :
    Calls Tryd.prog 17 #[.int .u64 u] w fun e w' => e = .returned (.string ⟨(Lib.decDigits u).toArray⟩) ∧ Below w.heap.size w w' := by
  have e : Lib.decDigits u = [UInt8.ofNat (48 + u)] := by rw [Lib.decDigits, dif_pos hu]
  have hc : (48 : Int) + u = (UInt8.ofNat (48 + u)).toNat := by rw [dig_byte hu]; omega
  rw [e]
  clear e
  generalize UInt8.ofNat (48 + u) = c at *
  have HC := Lib.hid hc
  clear hc
  go_enter Tryd.func17, Tryd.ntmps17
  go_wp2_with fail
  have HCV : (convert 30 9 (.slice (some ⟨w.heap.size, 0, none⟩) 1 1)).run Tryd.prog (w.alloc (.cells #[.int .u8 (48 + (u : Int))] 5)) = .ok (.string ⟨#[c]⟩) (w.alloc (.cells #[.int .u8 (48 + (u : Int))] 5)) :=
    run_convert_bytes_back (w.alloc (.cells #[.int .u8 (48 + (u : Int))] 5)) _ _ 5 ⟨w.heap.size, 0, none⟩ 1 [c] Tryd.underlying30 Tryd.underlying5 Tryd.underlying9 (by
      intro j hj
      have : j = 0 := by simpa using hj
      subst this
      simp only [List.getElem_cons_zero, Addr.add]
      rw [← HC.out]
      exact Lib.cell_of_heap (heap_new w _) 0)
  rw [HCV]
  simp only [Result.andThen]
  rw [Oper.upon_value]
  go_wp2_with fail
  go_ret
  exact ⟨rfl, (Below.refl _ _).alloc (Nat.le_refl _) _⟩
theorem digits_len : ∀ (k u : Nat), u < 10 ^ (k + 1) → (Lib.decDigits u).length ≤ k + 1
  | 0, u, h => by rw [Lib.decDigits, dif_pos (by omega)]; simp
  | k + 1, u, h => by
    rw [Lib.decDigits]
    split
    · simp
    · have := digits_len k (u / 10) (by rw [Nat.pow_succ] at h; omega)
      rw [List.length_append]
      simp only [List.length_cons, List.length_nil]
      omega
theorem refDigits_great (u : Nat) (w : World) (hu : ¬ u < 10) (h64 : u < 18446744073709551616) (IH : Hid (∀ v, v < u → ∀ w, Calls Tryd.prog 17 #[.int .u64 v] w fun e w' => e = .returned (.string ⟨(Lib.decDigits v).toArray⟩) ∧ Below w.heap.size w w')) :
    Calls Tryd.prog 17 #[.int .u64 u] w fun e w' => e = .returned (.string ⟨(Lib.decDigits u).toArray⟩) ∧ Below w.heap.size w w' := by
  have h1 : Hid (∀ w, Calls Tryd.prog 17 #[.int .u64 ((u : Int) / 10)] w fun e w' => e = .returned (.string ⟨(Lib.decDigits (u / 10)).toArray⟩) ∧ Below w.heap.size w w') := Lib.hid (IH.out (u / 10) (by omega))
  have h2 : Hid (∀ w, Calls Tryd.prog 17 #[.int .u64 ((u : Int) % 10)] w fun e w' => e = .returned (.string ⟨#[UInt8.ofNat (48 + u % 10)]⟩) ∧ Below w.heap.size w w') := Lib.hid fun w => by
    have := IH.out (u % 10) (by omega) w
    rw [Lib.decDigits, dif_pos (by omega)] at this
    exact this
  have e : Lib.decDigits u = Lib.decDigits (u / 10) ++ [UInt8.ofNat (48 + u % 10)] := by rw [Lib.decDigits, dif_neg hu]
  have hl : (Lib.decDigits (u / 10)).length ≤ 20 := digits_len 19 _ (by omega)
  rw [e]
  clear e IH
  generalize Lib.decDigits (u / 10) = l at *
  generalize UInt8.ofNat (48 + u % 10) = c at *
  go_enter Tryd.func17, Tryd.ntmps17
  go_wp2_with fail
  refine (h1.out _).mono ?_
  rintro e w1 ⟨rfl, hb1⟩
  go_wp2_with fail
  refine (h2.out _).mono ?_
  rintro e w2 ⟨rfl, hb2⟩
  go_wp2_with fail
  go_ret
  exact ⟨ret_bytes (by simp), hb1.trans (hb2.mono hb1.size)⟩

theorem refDigits_any : ∀ (u : Nat), u < 18446744073709551616 → ∀ (w : World),
    Calls Tryd.prog 17 #[.int .u64 u] w fun e w' => e = .returned (.string ⟨(Lib.decDigits u).toArray⟩) ∧ Below w.heap.size w w' := by
  intro u
  induction u using Nat.strongRecOn with
  | ind u ih =>
    intro h64 w
    by_cases hu : u < 10
    · exact refDigits_small u w hu
    · exact refDigits_great u w hu h64 (Lib.hid fun v hv => ih v hv (by omega))
end Go.Proofs.YtiahojbliaaklaaDoor
