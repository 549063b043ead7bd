/- Frames as lists: what is decoded; a frame comes back, cut short or with more it isn't decoded, nor with a burst of bits turned. Plain mathematics. -/
import Derived.Test.YthdaibmminibhaaDoorCutF
namespace Go.Proofs.YthdaibmminibhaaDoor
open Go.RowKit

/-- The error and the inside that Decode answers. -/
def decL (l : List UInt8) : Nat × List UInt8 :=
  match msr l with
  | none => (2, [])
  | some (f, t) => if l.length = t + 4 then (if l.drop t = Crc.le4 (Crc.crc (l.take t)) then (0, (l.take t).drop f) else (4, [])) else (2, [])
theorem decL_none {l : List UInt8} (h : msr l = none) : decL l = (2, []) := by unfold decL; rw [h]
theorem decL_long {l : List UInt8} {f t : Nat} (h : msr l = some (f, t)) (hl : l.length ≠ t + 4) : decL l = (2, []) := by unfold decL; rw [h]; simp only; rw [if_neg hl]
theorem decL_yes {l : List UInt8} {f t : Nat} (h : msr l = some (f, t)) (hl : l.length = t + 4) (hs : l.drop t = Crc.le4 (Crc.crc (l.take t))) : decL l = (0, (l.take t).drop f) := by unfold decL; rw [h]; simp only; rw [if_pos hl, if_pos hs]
theorem decL_sum {l : List UInt8} {f t : Nat} (h : msr l = some (f, t)) (hl : l.length = t + 4) (hs : l.drop t ≠ Crc.le4 (Crc.crc (l.take t))) : decL l = (4, []) := by unfold decL; rw [h]; simp only; rw [if_pos hl, if_neg hs]
theorem decL_cases (l : List UInt8) : decL l = (2, []) ∨ decL l = (4, []) ∨ ∃ f t, msr l = some (f, t) ∧ l.length = t + 4 ∧ l.drop t = Crc.le4 (Crc.crc (l.take t)) ∧ decL l = (0, (l.take t).drop f) := by
  cases h : msr l with
  | none => exact .inl (decL_none h)
  | some x =>
    obtain ⟨f, t⟩ := x
    by_cases hl : l.length = t + 4
    · by_cases hs : l.drop t = Crc.le4 (Crc.crc (l.take t))
      · exact .inr (.inr ⟨f, t, rfl, hl, hs, decL_yes h hl hs⟩)
      · exact .inr (.inl (decL_sum h hl hs))
    · exact .inl (decL_long h hl)
theorem aheadB_eq (l : List UInt8) : (aheadB l).length = 1 + (numB l.length).length + l.length := by
  unfold aheadB; rw [List.length_append, List.length_cons]; omega
theorem fr_cons (l rest : List UInt8) : frB l ++ rest = 83 :: (numB l.length ++ (l ++ (Crc.le4 (Crc.crc (aheadB l)) ++ rest))) := by
  unfold frB
  have : aheadB l = 83 :: (numB l.length ++ l) := rfl
  rw [show Crc.le4 (Crc.crc (aheadB l)) = Crc.le4 (Crc.crc (aheadB l)) from rfl]
  generalize Crc.le4 (Crc.crc (aheadB l)) = s at *
  rw [this]
  simp
theorem msr_fr {l : List UInt8} (h : l.length ≤ 200000) (rest : List UInt8) : msr (frB l ++ rest) = some (1 + (numB l.length).length, 1 + (numB l.length).length + l.length) := by
  have h4 : (Crc.le4 (Crc.crc (aheadB l))).length = 4 := rfl
  rw [fr_cons, msr_head, readN_num _ _ (by omega)]
  simp only
  rw [if_pos]
  refine ⟨h, ?_⟩
  rw [List.length_append, List.length_append, List.length_append, h4]
  omega
theorem take_len {α : Type} {a b : List α} {n : Nat} (h : a.length = n) : (a ++ b).take n = a := by rw [← h]; simp
theorem drop_len {α : Type} {a b : List α} {n : Nat} (h : a.length = n) : (a ++ b).drop n = b := by rw [← h]; simp
theorem decL_fr {l : List UInt8} (h : l.length ≤ 200000) : decL (frB l) = (0, l) := by
  have e := msr_fr h []
  rw [List.append_nil] at e
  have ea := aheadB_eq l
  have e1 : (frB l).take (1 + (numB l.length).length + l.length) = aheadB l := by unfold frB; exact take_len ea
  have e2 : (frB l).drop (1 + (numB l.length).length + l.length) = Crc.le4 (Crc.crc (aheadB l)) := by unfold frB; exact drop_len ea
  rw [decL_yes e (by rw [frB_len, ea]) (by rw [e1, e2]), e1]
  congr 1
  unfold aheadB
  exact drop_len (by rw [List.length_cons]; omega)
theorem decL_more {l m : List UInt8} (h : l.length ≤ 200000) (hm : m ≠ []) : decL (frB l ++ m) = (2, []) := by
  refine decL_long (msr_fr h m) ?_
  rw [List.length_append, frB_len, aheadB_eq]
  have : m.length ≠ 0 := fun h => hm (List.length_eq_zero_iff.1 h)
  omega
theorem readN_part {n c : Nat} (hn : n < 18446744073709551616) (hc : c < (numB n).length) : readN ((numB n).take c) = none := by
  cases hr : readN ((numB n).take c) with
  | none => rfl
  | some x =>
    obtain ⟨m, j⟩ := x
    obtain ⟨a, b, d, hm, _⟩ := readN_some hr
    rw [List.length_take] at d
    rw [List.take_take, show min j c = j by omega] at a
    have e := readN_num m ((numB n).drop j) hm
    rw [← a, List.take_append_drop] at e
    have e2 := readN_num n [] hn
    rw [List.append_nil, e] at e2
    have := (Prod.mk.inj (Option.some.inj e2)).2
    rw [List.length_take] at this
    omega
theorem decL_cut {l : List UInt8} (h : l.length ≤ 200000) {c : Nat} (hc : c < (frB l).length) : decL ((frB l).take c) = (2, []) := by
  apply decL_none
  rw [frB_len, aheadB_eq] at hc
  have e := fr_cons l []
  rw [List.append_nil, List.append_nil] at e
  have h4 : (Crc.le4 (Crc.crc (aheadB l))).length = 4 := rfl
  rw [e]
  generalize Crc.le4 (Crc.crc (aheadB l)) = s at *
  cases c with
  | zero => rfl
  | succ c =>
    rw [List.take_succ_cons, msr_head]
    by_cases hk : (numB l.length).length ≤ c
    · have e2 : (numB l.length ++ (l ++ s)).take c = numB l.length ++ (l ++ s).take (c - (numB l.length).length) := by
        rw [List.take_append, List.take_of_length_le hk]
      rw [e2, readN_num _ _ (by omega)]
      simp only
      rw [if_neg]
      rw [List.length_append, List.length_take, List.length_append, h4]
      omega
    · have e2 : (numB l.length ++ (l ++ s)).take c = (numB l.length).take c := by
        rw [List.take_append, show c - (numB l.length).length = 0 by omega]; simp
      rw [e2, readN_part (by omega) (by omega)]

/-! ### Bits that are turned -/
/-- The bit of a place, each byte's lowest first. -/
def bitL (l : List UInt8) (p : Nat) : Bool := (l.getD (p / 8) 0).toNat.testBit (p % 8)
theorem bits8_get (x : UInt8) (i : Nat) (h : i < 8) : (Crc.bits8 x).getD i false = x.toNat.testBit i := by
  obtain rfl | rfl | rfl | rfl | rfl | rfl | rfl | rfl : i = 0 ∨ i = 1 ∨ i = 2 ∨ i = 3 ∨ i = 4 ∨ i = 5 ∨ i = 6 ∨ i = 7 := by omega
  all_goals rfl
theorem bits8_len (x : UInt8) : (Crc.bits8 x).length = 8 := rfl
theorem bitsOf_get : ∀ (l : List UInt8) (p : Nat), p < 8 * l.length → (Crc.bitsOf l).getD p false = bitL l p
  | [], p, h => by simp at h
  | c :: l, p, h => by
    have e : Crc.bitsOf (c :: l) = Crc.bits8 c ++ Crc.bitsOf l := by unfold Crc.bitsOf; rw [List.flatMap_cons]
    rw [List.length_cons] at h
    rw [e]
    by_cases hp : p < 8
    · rw [List.getD_eq_getElem?_getD, List.getElem?_append_left (by rw [bits8_len]; exact hp), ← List.getD_eq_getElem?_getD, bits8_get _ _ hp]
      unfold bitL
      rw [show p / 8 = 0 by omega, show p % 8 = p by omega]
      rfl
    · have ih := bitsOf_get l (p - 8) (by omega)
      rw [List.getD_eq_getElem?_getD, List.getElem?_append_right (by rw [bits8_len]; omega), bits8_len, ← List.getD_eq_getElem?_getD, ih]
      unfold bitL
      rw [show p / 8 = (p - 8) / 8 + 1 by omega, show (p - 8) % 8 = p % 8 by omega, List.getD_cons_succ]
/-- How g is f with the bits of d turned from the place k on, i of them. -/
def TurnedBy (f g : List UInt8) (d k i : Nat) : Prop := g.length = f.length ∧ ∀ p, p < 8 * f.length → bitL g p = (bitL f p ^^ (decide (k ≤ p) && decide (p < k + i) && d.testBit (p - k)))
theorem TurnedBy.start (f : List UInt8) (d k : Nat) : TurnedBy f f d k 0 := ⟨rfl, fun p _ => by
  have : (decide (k ≤ p) && decide (p < k + 0)) = false := by
    by_cases h : k ≤ p <;> simp [h]
  rw [this]; simp⟩
theorem TurnedBy.skip {f g : List UInt8} {d k i : Nat} (h : TurnedBy f g d k i) (hd : d.testBit i = false) : TurnedBy f g d k (i + 1) := ⟨h.1, fun p hp => by
  rw [h.2 p hp]
  congr 1
  by_cases h1 : k ≤ p
  · by_cases h2 : p < k + i
    · simp [h1, h2, show p < k + (i + 1) by omega]
    · by_cases h3 : p = k + i
      · subst h3; simp [hd]
      · simp [h1, h2, show ¬ p < k + (i + 1) by omega]
  · simp [h1]⟩
theorem flip_bit (x : UInt8) (r j : Nat) (hr : r < 8) (hj : j < 8) : (UInt8.ofNat (x.toNat ^^^ 2 ^ r)).toNat.testBit j = (x.toNat.testBit j ^^ decide (j = r)) := by
  have h1 : x.toNat ^^^ 2 ^ r < 256 := Nat.xor_lt_two_pow (n := 8) x.toNat_lt (by
    have : 2 ^ r ≤ 2 ^ 7 := Nat.pow_le_pow_right (by omega) (by omega)
    have e : (2 : Nat) ^ 7 = 128 := rfl
    have e8 : (2 : Nat) ^ 8 = 256 := rfl
    omega)
  rw [UInt8.toNat_ofNat_of_lt' (by simp [UInt8.size]; exact h1), Nat.testBit_xor, Nat.testBit_two_pow]
  congr 1
  by_cases h : r = j
  · subst h; simp
  · simp [h, Ne.symm h]
theorem TurnedBy.turn {f g : List UInt8} {d k i : Nat} (h : TurnedBy f g d k i) (hd : d.testBit i = true) (hk : k + i < 8 * f.length) : TurnedBy f (g.set ((k + i) / 8) (UInt8.ofNat ((g.getD ((k + i) / 8) 0).toNat ^^^ 2 ^ ((k + i) % 8)))) d k (i + 1) := by
  obtain ⟨hl, hb⟩ := h
  refine ⟨by rw [List.length_set, hl], fun p hp => ?_⟩
  have hq : (k + i) / 8 < g.length := by rw [hl]; omega
  by_cases h3 : p = k + i
  · subst h3
    have e : bitL (g.set ((k + i) / 8) (UInt8.ofNat ((g.getD ((k + i) / 8) 0).toNat ^^^ 2 ^ ((k + i) % 8)))) (k + i) = (bitL g (k + i) ^^ true) := by
      unfold bitL
      rw [List.getD_eq_getElem?_getD, List.getElem?_set_self hq, Option.getD_some, flip_bit _ _ _ (by omega) (by omega)]
      simp
    rw [e, hb _ hp]
    have e0 : (decide (k ≤ k + i) && decide (k + i < k + i)) = false := by simp
    have e1 : (decide (k ≤ k + i) && decide (k + i < k + (i + 1))) = true := by simp
    rw [e0, e1, show k + i - k = i by omega, hd]
    simp
  · have e : bitL (g.set ((k + i) / 8) (UInt8.ofNat ((g.getD ((k + i) / 8) 0).toNat ^^^ 2 ^ ((k + i) % 8)))) p = bitL g p := by
      unfold bitL
      by_cases h8 : p / 8 = (k + i) / 8
      · rw [h8, List.getD_eq_getElem?_getD, List.getElem?_set_self hq, Option.getD_some, flip_bit _ _ _ (by omega) (by omega)]
        rw [show decide (p % 8 = (k + i) % 8) = false from decide_eq_false (by omega)]
        simp
      · rw [List.getD_eq_getElem?_getD, List.getElem?_set_ne (by omega), ← List.getD_eq_getElem?_getD]
    rw [e, hb _ hp]
    congr 1
    by_cases h1 : k ≤ p
    · by_cases h2 : p < k + i
      · simp [h1, h2, show p < k + (i + 1) by omega]
      · simp [h1, h2, show ¬ p < k + (i + 1) by omega]
    · simp [h1]
theorem decL_turned {l g : List UInt8} {d k : Nat} (h : TurnedBy (frB l) g d k 32) (hk : k + 32 ≤ 8 * (frB l).length) (hd : 0 < d) (hd2 : d < 4294967296) : decL g = (2, []) ∨ decL g = (4, []) := by
  rcases decL_cases g with h1 | h1 | ⟨f, t, _, h3, h4, _⟩
  · exact .inl h1
  · exact .inr h1
  · exfalso
    obtain ⟨hl, hb⟩ := h
    have r1 : Crc.run (BitVec.allOnes 32) (frB l) = Crc.stpN 32 (BitVec.allOnes 32) := Crc.residue (aheadB l)
    have r2 : Crc.run (BitVec.allOnes 32) g = Crc.stpN 32 (BitVec.allOnes 32) := by
      have := Crc.residue (g.take t)
      rw [← h4, List.take_append_drop] at this
      exact this
    rw [Crc.run_bits] at r1 r2
    have hlen : (Crc.bitsOf (frB l)).length = (Crc.bitsOf g).length := by rw [Crc.bitsOf_len, Crc.bitsOf_len, hl]
    have hx := Crc.brun_xor (Crc.bitsOf (frB l)) (Crc.bitsOf g) (BitVec.allOnes 32) (BitVec.allOnes 32) hlen
    rw [r1, r2, BitVec.xor_self, BitVec.xor_self] at hx
    have hz : List.zipWith (· ^^ ·) (Crc.bitsOf (frB l)) (Crc.bitsOf g) = List.replicate k false ++ (List.range 32).map (fun i => d.testBit i) ++ List.replicate (8 * (frB l).length - (k + 32)) false := by
      apply List.ext_getElem?
      intro p
      by_cases hp : p < 8 * (frB l).length
      · have e1 := bitsOf_get (frB l) p hp
        have e2 := bitsOf_get g p (by rw [hl]; exact hp)
        rw [hb p hp] at e2
        have g1 : (Crc.bitsOf (frB l))[p]? = some (bitL (frB l) p) := by
          rw [List.getElem?_eq_getElem (by rw [Crc.bitsOf_len]; exact hp)]
          rw [List.getD_eq_getElem?_getD, List.getElem?_eq_getElem (by rw [Crc.bitsOf_len]; exact hp)] at e1
          simpa using e1
        have g2 : (Crc.bitsOf g)[p]? = some (bitL (frB l) p ^^ (decide (k ≤ p) && decide (p < k + 32) && d.testBit (p - k))) := by
          rw [List.getElem?_eq_getElem (by rw [Crc.bitsOf_len, hl]; exact hp)]
          rw [List.getD_eq_getElem?_getD, List.getElem?_eq_getElem (by rw [Crc.bitsOf_len, hl]; exact hp)] at e2
          simpa using e2
        rw [List.getElem?_zipWith, g1, g2]
        simp only
        rw [List.append_assoc]
        by_cases h1 : k ≤ p
        · rw [List.getElem?_append_right (by simpa using h1), List.length_replicate]
          by_cases h2 : p < k + 32
          · rw [List.getElem?_append_left (by simp; omega)]
            simp [h1, h2, show p - k < 32 by omega]
          · rw [List.getElem?_append_right (by simp; omega)]
            simp [h1, h2, show p - k - 32 < 8 * (frB l).length - (k + 32) by omega]
        · rw [List.getElem?_append_left (by simp; omega)]
          simp [h1, show p < k by omega]
      · rw [List.getElem?_eq_none (by rw [List.length_zipWith, Crc.bitsOf_len, Crc.bitsOf_len, hl]; omega), List.getElem?_eq_none (by simp; omega)]
    rw [hz] at hx
    refine Crc.burst k (8 * (frB l).length - (k + 32)) ((List.range 32).map fun i => d.testBit i) (by simp) ?_ hx
    obtain ⟨i, hi⟩ := Nat.exists_testBit_of_ne_zero (show d ≠ 0 by omega)
    refine List.mem_map.2 ⟨i, List.mem_range.2 ?_, hi⟩
    rcases Nat.lt_or_ge i 32 with h' | h'
    · exact h'
    · have := Nat.testBit_lt_two_pow (x := d) (i := i) (Nat.lt_of_lt_of_le (show d < 2 ^ 32 from hd2) (Nat.pow_le_pow_right (by omega) h'))
      rw [this] at hi; cases hi
end Go.Proofs.YthdaibmminibhaaDoor
