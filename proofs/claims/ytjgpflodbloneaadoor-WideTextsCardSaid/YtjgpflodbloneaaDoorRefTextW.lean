/- The contract of the document's Text: under way. -/
import Derived.Test.YtjgpflodbloneaaDoorTextP
import Derived.Test.YtjgpflodbloneaaDoorRefTenth
import Derived.Test.YtjgpflodbloneaaDoorRefNeg
import Derived.Test.YtjgpflodbloneaaDoorWEq
namespace Go.Proofs.YtjgpflodbloneaaDoor
open Go.RowKit

theorem dig_byte {u : Nat} (hu : u < 10) : (UInt8.ofNat (48 + u)).toNat = 48 + u := UInt8.toNat_ofNat_of_lt' (by simp [UInt8.size]; omega)
set_option maxRecDepth 100000 in
theorem refDigits_small (u : Nat) (w : World) (hu : u < 10) :
    Calls Tryd.prog 22 #[.int .u64 u] w fun e w' => e = .returned (.string ⟨(Lib.decDigits u).toArray⟩) ∧ Below w.heap.size w w' := by
  have e : Lib.decDigits u = [UInt8.ofNat (48 + u)] := by rw [Lib.decDigits, dif_pos hu]
  have hc : (48 : Int) + u = (UInt8.ofNat (48 + u)).toNat := by rw [dig_byte hu]; omega
  rw [e]
  clear e
  generalize UInt8.ofNat (48 + u) = c at *
  have HC := Lib.hid hc
  clear hc
  go_enter Tryd.func22, Tryd.ntmps22
  go_wp2_with fail
  have HCV : (convert 32 9 (.slice (some ⟨w.heap.size, 0, none⟩) 1 1)).run Tryd.prog (w.alloc (.cells #[.int .u8 (48 + (u : Int))] 5)) = .ok (.string ⟨#[c]⟩) (w.alloc (.cells #[.int .u8 (48 + (u : Int))] 5)) :=
    run_convert_bytes_back (w.alloc (.cells #[.int .u8 (48 + (u : Int))] 5)) _ _ 5 ⟨w.heap.size, 0, none⟩ 1 [c] Tryd.underlying32 Tryd.underlying5 Tryd.underlying9 (by
      intro j hj
      have : j = 0 := by simpa using hj
      subst this
      simp only [List.getElem_cons_zero, Addr.add]
      rw [← HC.out]
      exact cell_of_row _ _ 0 _ _ _ (heap_alloc_new w _))
  rw [HCV]
  simp only [Result.andThen]
  rw [Oper.upon_value]
  go_wp2_with fail
  go_ret
  exact ⟨rfl, (Below.refl _ _).alloc (Nat.le_refl _) _⟩

/-- How far the digits are laid. -/
def Laid (N : Nat) (x y : BitVec 128) (t : List UInt8) : Prop := (t = [] ∧ y = x) ∨ (0 < t.length ∧ (y = 0#128 → t = Lib.decDigits N) ∧ (y ≠ 0#128 → Lib.decDigits y.toNat ++ t = Lib.decDigits N))
def sl : Value → Nat
  | .string b => b.size
  | _ => 0
theorem ten_zero (y : BitVec 128) : y / 10#128 = 0#128 ↔ y.toNat < 10 := by
  constructor
  · intro h
    have := congrArg BitVec.toNat h
    rw [BitVec.toNat_udiv] at this
    simp at this
    omega
  · intro h
    apply BitVec.eq_of_toNat_eq
    rw [BitVec.toNat_udiv]
    simp
    omega
theorem dec_step (n : Nat) : Lib.decDigits n = (if n < 10 then [] else Lib.decDigits (n / 10)) ++ [UInt8.ofNat (48 + n % 10)] := by
  rw [Lib.decDigits]
  split
  · next h => simp [Nat.mod_eq_of_lt h]
  · rfl
theorem laid_step {x y : BitVec 128} {t : List UInt8} (h : Laid x.toNat x y t) (hy : t = [] ∨ y ≠ 0#128) : Laid x.toNat x (y / 10#128) (Lib.decDigits (y.toNat % 10) ++ t) := by
  have e : Lib.decDigits (y.toNat % 10) = [UInt8.ofNat (48 + y.toNat % 10)] := by rw [Lib.decDigits, dif_pos (by omega)]
  have hd : (y / 10#128).toNat = y.toNat / 10 := by rw [BitVec.toNat_udiv]; rfl
  have key : Lib.decDigits y.toNat ++ t = Lib.decDigits x.toNat := by
    rcases h with ⟨rfl, rfl⟩ | ⟨_, _, h3⟩
    · simp
    · rcases hy with rfl | hy
      · simp at *
      · exact h3 hy
  rw [dec_step] at key
  right
  rw [e]
  refine ⟨by simp, fun hz => ?_, fun hz => ?_⟩
  · rw [if_pos ((ten_zero y).1 hz)] at key
    simpa using key
  · rw [if_neg (fun hl => hz ((ten_zero y).2 hl))] at key
    rw [hd]
    simpa using key
theorem laid_len {N : Nat} {x y : BitVec 128} {t : List UInt8} (h : Laid N x y t) (hN : (Lib.decDigits N).length ≤ 128) : t.length ≤ 128 := by
  rcases h with ⟨rfl, _⟩ | ⟨_, h2, h3⟩
  · simp
  · by_cases hy : y = 0#128
    · rw [h2 hy]; exact hN
    · have := congrArg List.length (h3 hy)
      rw [List.length_append] at this
      omega
/-- One round's letters. -/
theorem tenth_step (y : BitVec 128) : ∃ (d : Nat) (z : BitVec 128) (ds : List UInt8), d < 10 ∧ Hid (z = y / 10#128 ∧ ds = Lib.decDigits (y.toNat % 10) ∧ ds.length = 1)
      ∧ Hid (∀ w, Calls Tryd.prog 21 #[.agg (fArr fun i => y.getLsbD i)] w fun e w' => e = .returned (.tuple #[.agg (fArr fun i => z.getLsbD i), .int .i64 d]) ∧ Below w.heap.size w w')
      ∧ Hid (∀ w, Calls Tryd.prog 22 #[.int .u64 d] w fun e w' => e = .returned (.string ⟨ds.toArray⟩) ∧ Below w.heap.size w w') :=
  ⟨y.toNat % 10, y / 10#128, Lib.decDigits (y.toNat % 10), by omega, Lib.hid ⟨rfl, rfl, by rw [Lib.decDigits, dif_pos (by omega)]; rfl⟩, Lib.hid fun w => refTenth_any y w, Lib.hid fun w => refDigits_small _ w (by omega)⟩

theorem cat_bytes (a b : List UInt8) : (⟨a.toArray⟩ : ByteArray) ++ ⟨b.toArray⟩ = ⟨(a ++ b).toArray⟩ := by
  apply ByteArray.ext
  simp
theorem cat_sl (a b : List UInt8) : sl (.string ((⟨a.toArray⟩ : ByteArray) ++ ⟨b.toArray⟩)) = a.length + b.length := by
  rw [cat_bytes]
  show (a ++ b).toArray.size = _
  simp
theorem one_sl (a : List UInt8) : sl (.string ⟨a.toArray⟩) = a.length := by
  show a.toArray.size = _
  simp
end Go.Proofs.YtjgpflodbloneaaDoor
