/- What bytes read as, as lists: numbers, texts, values, rows, rows of rows; reading is the inverse of writing. Plain mathematics. -/
import Derived.Test.YtnfpomjcofhppaaDoorSplit4
namespace Go.Proofs.YtnfpomjcofhppaaDoor
open Go.RowKit

/-- What a number reads as whose next byte is its i-th: the rest's value and how many bytes it has. -/
def rdN : Nat → List UInt8 → Option (Nat × Nat)
  | _, [] => none
  | i, c :: l =>
    if 9 < i ∨ (i = 9 ∧ 1 < c.toNat % 128) then none
    else if c.toNat < 128 then (if 0 < i ∧ c.toNat = 0 then none else some (c.toNat, 1))
    else (rdN (i + 1) l).map fun x => (c.toNat % 128 + 128 * x.1, x.2 + 1)
def readN (l : List UInt8) : Option (Nat × Nat) := rdN 0 l

theorem p9 : (128 : Nat) ^ 9 = 9223372036854775808 := rfl
theorem numB_byte (c : UInt8) (h : c.toNat < 128) : numB c.toNat = [c] := by
  rw [numB_small h]
  simp
theorem pow_step (i : Nat) : (128 : Nat) ^ (i + 1) = 128 ^ i * 128 := Nat.pow_succ ..

theorem rdN_num (rest : List UInt8) : ∀ (i n : Nat), n * 128 ^ i < 18446744073709551616 → (i = 0 ∨ n ≠ 0) → i ≤ 9 → rdN i (numB n ++ rest) = some (n, (numB n).length) := by
  intro i n
  induction n using Nat.strongRecOn generalizing i with
  | _ n ih =>
    intro h h0 h9
    by_cases hn : n < 128
    · rw [numB_small hn, List.singleton_append, rdN]
      have hc : (UInt8.ofNat n).toNat = n := UInt8.toNat_ofNat_of_lt' (by simp [UInt8.size]; omega)
      rw [hc, if_neg, if_pos hn, if_neg (by omega)]
      · rfl
      · rintro (h' | ⟨rfl, h'⟩)
        · omega
        · rw [p9] at h; omega
    · have hi : i ≠ 9 := by rintro rfl; rw [p9] at h; omega
      have hc : (UInt8.ofNat (n % 128 + 128)).toNat = n % 128 + 128 := UInt8.toNat_ofNat_of_lt' (by simp [UInt8.size]; omega)
      have e := ih (n / 128) (by omega) (i + 1) (by
        have h2 : n / 128 * 128 ^ (i + 1) ≤ n * 128 ^ i := by
          rw [pow_step, Nat.mul_comm (128 ^ i) 128, ← Nat.mul_assoc]
          exact Nat.mul_le_mul_right _ (Nat.div_mul_le_self n 128)
        omega) (.inr (by omega)) (by omega)
      rw [numB_great hn, List.cons_append, rdN, hc, if_neg (by omega), if_neg (by omega), e, Option.map_some, List.length_cons]
      congr 2
      omega
theorem readN_num (n : Nat) (rest : List UInt8) (h : n < 18446744073709551616) : readN (numB n ++ rest) = some (n, (numB n).length) :=
  rdN_num rest 0 n (by simpa using h) (.inl rfl) (by omega)

theorem rdN_some : ∀ (l : List UInt8) (i n k : Nat), rdN i l = some (n, k) → l.take k = numB n ∧ 1 ≤ k ∧ k ≤ l.length ∧ n * 128 ^ i < 18446744073709551616 ∧ (0 < i → n ≠ 0) ∧ i ≤ 9
  | [], i, n, k, h => by simp [rdN] at h
  | c :: l, i, n, k, h => by
    rw [rdN] at h
    split at h
    · cases h
    · next h1 =>
      split at h
      · next h2 =>
        split at h
        · cases h
        · next h3 =>
          simp only [Option.some.injEq, Prod.mk.injEq] at h
          obtain ⟨rfl, rfl⟩ := h
          refine ⟨by rw [numB_byte _ h2]; rfl, by omega, by simp, ?_, by omega, by omega⟩
          by_cases h9 : i = 9
          · subst h9; rw [p9]; omega
          · have : 128 ^ i ≤ 128 ^ 8 := Nat.pow_le_pow_right (by omega) (by omega)
            have h4 : c.toNat * 128 ^ i ≤ 127 * 128 ^ 8 := Nat.mul_le_mul (by omega) this
            have e8 : (128 : Nat) ^ 8 = 72057594037927936 := rfl
            rw [e8] at h4
            omega
      · next h2 =>
        cases hr : rdN (i + 1) l with
        | none => rw [hr] at h; cases h
        | some x =>
          obtain ⟨m, j⟩ := x
          rw [hr] at h
          simp only [Option.map_some, Option.some.injEq, Prod.mk.injEq] at h
          obtain ⟨rfl, rfl⟩ := h
          obtain ⟨a, b, b2, d, e, f⟩ := rdN_some l (i + 1) m j hr
          have hm := e (by omega)
          have h256 := c.toNat_lt
          have hcc : UInt8.ofNat ((c.toNat % 128 + 128 * m) % 128 + 128) = c := by
            have : (c.toNat % 128 + 128 * m) % 128 + 128 = c.toNat := by omega
            rw [this]; simp
          refine ⟨?_, by omega, by simp; omega, ?_, by omega, by omega⟩
          · rw [numB_great (by omega), List.take_succ_cons, a, hcc]
            congr 2
            omega
          · have hi : i ≤ 8 := by omega
            have e9 : 128 ^ (8 - i) * 128 ^ (i + 1) = 9223372036854775808 := by
              rw [← Nat.pow_add, show 8 - i + (i + 1) = 9 from by omega]
            have hm1 : m < 2 * 128 ^ (8 - i) := by
              rcases Nat.lt_or_ge m (2 * 128 ^ (8 - i)) with h' | h'
              · exact h'
              · have := Nat.mul_le_mul_right (128 ^ (i + 1)) h'
                rw [Nat.mul_assoc, e9] at this
                omega
            have h2 : (m + 1) * 128 ^ (i + 1) ≤ 18446744073709551616 := by
              have := Nat.mul_le_mul_right (128 ^ (i + 1)) (show m + 1 ≤ 2 * 128 ^ (8 - i) from hm1)
              rw [Nat.mul_assoc, e9] at this
              omega
            have h3 : (c.toNat % 128 + 128 * m + 1) * 128 ^ i ≤ (m + 1) * 128 ^ (i + 1) := by
              rw [pow_step, Nat.mul_comm (128 ^ i) 128, ← Nat.mul_assoc]
              exact Nat.mul_le_mul_right _ (by omega)
            rw [Nat.add_mul, Nat.one_mul] at h3
            have : 0 < 128 ^ i := Nat.pow_pos (by omega)
            omega
theorem readN_some {l : List UInt8} {n k : Nat} (h : readN l = some (n, k)) : l.take k = numB n ∧ 1 ≤ k ∧ k ≤ l.length ∧ n < 18446744073709551616 ∧ k ≤ 10 := by
  obtain ⟨a, b, c, d, _⟩ := rdN_some l 0 n k h
  have hn : n < 18446744073709551616 := by simpa using d
  refine ⟨a, b, c, hn, ?_⟩
  have := congrArg List.length a
  rw [List.length_take] at this
  have := (numB_10 hn).2
  omega

/-- A text of at most so many bytes. -/
def readS (most : Nat) (l : List UInt8) : Option (List UInt8 × Nat) :=
  match readN l with
  | none => none
  | some (n, k) => if n ≤ most ∧ n ≤ l.length - k then some ((l.drop k).take n, k + n) else none
/-- The int that is written as a number. -/
def zag (n : Nat) : Int := if n % 2 = 1 then -1 - ((n / 2 : Nat) : Int) else ((n / 2 : Nat) : Int)
def readV : List UInt8 → Option (Vl × Nat)
  | [] => none
  | c :: l =>
    if c = 0 then some (⟨0, 0, ⟨#[]⟩⟩, 1) else if c = 1 then some (⟨1, 0, ⟨#[]⟩⟩, 1) else if c = 2 then some (⟨1, 1, ⟨#[]⟩⟩, 1)
    else if c = 3 then (readN l).map fun x => (⟨2, zag x.1, ⟨#[]⟩⟩, x.2 + 1)
    else if c = 4 then (readS 60 l).map fun x => (⟨3, 0, ⟨x.1.toArray⟩⟩, x.2 + 1)
    else none
def readVs : Nat → List UInt8 → Option (List Vl × Nat)
  | 0, _ => some ([], 0)
  | n + 1, l => match readV l with
    | none => none
    | some (v, k) => (readVs n (l.drop k)).map fun x => (v :: x.1, k + x.2)
def readR (l : List UInt8) : Option (List Vl × Nat) :=
  match readN l with
  | none => none
  | some (n, k) => if n ≤ 255 then (readVs n (l.drop k)).map fun x => (x.1, k + x.2) else none
def readRs : Nat → List UInt8 → Option (List (List Vl) × Nat)
  | 0, _ => some ([], 0)
  | n + 1, l => match readR l with
    | none => none
    | some (v, k) => (readRs n (l.drop k)).map fun x => (v :: x.1, k + x.2)
def readL (l : List UInt8) : Option (List (List Vl) × Nat) :=
  match readN l with
  | none => none
  | some (n, k) => (readRs n (l.drop k)).map fun x => (x.1, k + x.2)
/-- The bytes of a list of rows. -/
def rowsL (ls : List (List Vl)) : List UInt8 := numB ls.length ++ ls.flatMap rowB

theorem take_app {α : Type} {l a b : List α} {i j : Nat} (h1 : l.take i = a) (h2 : (l.drop i).take j = b) : l.take (i + j) = a ++ b := by
  rw [List.take_add, h1, h2]
theorem readS_some {most : Nat} {l t : List UInt8} {k : Nat} (h : readS most l = some (t, k)) (_ : most < 18446744073709551616) : l.take k = numB t.length ++ t ∧ 1 ≤ k ∧ k ≤ l.length ∧ t.length ≤ most := by
  unfold readS at h
  cases hn : readN l with
  | none => rw [hn] at h; cases h
  | some x =>
    obtain ⟨n, j⟩ := x
    rw [hn] at h
    simp only at h
    obtain ⟨a, b, c, d, _⟩ := readN_some hn
    split at h
    · next h1 =>
      simp only [Option.some.injEq, Prod.mk.injEq] at h
      obtain ⟨rfl, rfl⟩ := h
      have hl : ((l.drop j).take n).length = n := by rw [List.length_take, List.length_drop]; omega
      exact ⟨by rw [hl]; exact take_app a rfl, by omega, by omega, by omega⟩
    · cases h
theorem zig_zag {n : Nat} (h : n < 18446744073709551616) : zig (zag n) = n ∧ -9223372036854775808 ≤ zag n ∧ zag n ≤ 9223372036854775807 := by
  unfold zig zag
  refine ⟨?_, ?_, ?_⟩ <;> (repeat' split) <;> omega
theorem zag_zig {n : Int} (h0 : -9223372036854775808 ≤ n) (h1 : n ≤ 9223372036854775807) : zag (zig n) = n := by
  unfold zig zag
  (repeat' split) <;> omega
theorem sizeA (t : List UInt8) : ByteArray.size ⟨t.toArray⟩ = t.length := by
  show t.toArray.size = _
  simp
theorem readV_some {l : List UInt8} {v : Vl} {k : Nat} (h : readV l = some (v, k)) : l.take k = v.bytes ∧ 1 ≤ k ∧ k ≤ l.length ∧ v.good = true ∧ v.fits := by
  cases l with
  | nil => cases h
  | cons c l =>
    rw [readV] at h
    have e0 : ByteArray.size ⟨#[]⟩ = 0 := rfl
    split at h
    · next hc =>
      simp only [Option.some.injEq, Prod.mk.injEq] at h
      obtain ⟨rfl, rfl⟩ := h
      exact ⟨by subst hc; rfl, by omega, by simp, by simp [Vl.good, goodB], by unfold maxLen; simp [e0], by simp, by simp⟩
    split at h
    · next hc =>
      simp only [Option.some.injEq, Prod.mk.injEq] at h
      obtain ⟨rfl, rfl⟩ := h
      exact ⟨by subst hc; rfl, by omega, by simp, by simp [Vl.good, goodB], by unfold maxLen; simp [e0], by simp, by simp⟩
    split at h
    · next hc =>
      simp only [Option.some.injEq, Prod.mk.injEq] at h
      obtain ⟨rfl, rfl⟩ := h
      exact ⟨by subst hc; rfl, by omega, by simp, by simp [Vl.good, goodB], by unfold maxLen; simp [e0], by simp, by simp⟩
    split at h
    · next hc =>
      cases hn : readN l with
      | none => rw [hn] at h; cases h
      | some x =>
        obtain ⟨n, j⟩ := x
        rw [hn] at h
        simp only [Option.map_some, Option.some.injEq, Prod.mk.injEq] at h
        obtain ⟨rfl, rfl⟩ := h
        obtain ⟨a, b, d, e, _⟩ := readN_some hn
        obtain ⟨z1, z2, z3⟩ := zig_zag e
        refine ⟨?_, by omega, by simp; omega, by simp [Vl.good, goodB], by unfold maxLen; simp [e0], z2, z3⟩
        subst hc
        unfold Vl.bytes valB
        simp only [List.take_succ_cons, a, z1]
        rw [if_neg (by omega), if_pos trivial]
    split at h
    · next hc =>
      cases hn : readS 60 l with
      | none => rw [hn] at h; cases h
      | some x =>
        obtain ⟨t, j⟩ := x
        rw [hn] at h
        simp only [Option.map_some, Option.some.injEq, Prod.mk.injEq] at h
        obtain ⟨rfl, rfl⟩ := h
        obtain ⟨a, b, d, e⟩ := readS_some hn (by omega)
        refine ⟨?_, by omega, by simp; omega, ?_, ?_, by simp, by simp⟩
        · subst hc
          unfold Vl.bytes valB strB
          simp only [List.take_succ_cons, a, sizeA]
          rfl
        · unfold Vl.good goodB
          simp [sizeA, e]
        · rw [sizeA]; unfold maxLen; omega
    · cases h
theorem readVs_some : ∀ (n : Nat) (l : List UInt8) (vs : List Vl) (k : Nat), readVs n l = some (vs, k) → l.take k = vs.flatMap Vl.bytes ∧ vs.length = n ∧ k ≤ l.length ∧ n ≤ k ∧ (∀ v ∈ vs, v.good = true ∧ v.fits)
  | 0, l, vs, k, h => by
    simp only [readVs, Option.some.injEq, Prod.mk.injEq] at h
    obtain ⟨rfl, rfl⟩ := h
    simp
  | n + 1, l, vs, k, h => by
    rw [readVs] at h
    cases hv : readV l with
    | none => rw [hv] at h; cases h
    | some x =>
      obtain ⟨v, j⟩ := x
      rw [hv] at h
      simp only at h
      cases hr : readVs n (l.drop j) with
      | none => rw [hr] at h; cases h
      | some y =>
        obtain ⟨us, m⟩ := y
        rw [hr] at h
        simp only [Option.map_some, Option.some.injEq, Prod.mk.injEq] at h
        obtain ⟨rfl, rfl⟩ := h
        obtain ⟨a, b, c, d, e⟩ := readV_some hv
        obtain ⟨a2, b2, c2, d2, e2⟩ := readVs_some n (l.drop j) us m hr
        rw [List.length_drop] at c2
        refine ⟨by rw [List.flatMap_cons]; exact take_app a a2, by simp [b2], by omega, by omega, ?_⟩
        intro w hw
        rw [List.mem_cons] at hw
        rcases hw with rfl | hw
        · exact ⟨d, e⟩
        · exact e2 w hw
theorem readR_some {l : List UInt8} {vs : List Vl} {k : Nat} (h : readR l = some (vs, k)) : l.take k = rowB vs ∧ vs.length ≤ 255 ∧ 1 ≤ k ∧ k ≤ l.length ∧ (∀ v ∈ vs, v.good = true ∧ v.fits) := by
  unfold readR at h
  cases hn : readN l with
  | none => rw [hn] at h; cases h
  | some x =>
    obtain ⟨n, j⟩ := x
    rw [hn] at h
    simp only at h
    obtain ⟨a, b, c, d, _⟩ := readN_some hn
    split at h
    · next h1 =>
      cases hr : readVs n (l.drop j) with
      | none => rw [hr] at h; cases h
      | some y =>
        obtain ⟨us, m⟩ := y
        rw [hr] at h
        simp only [Option.map_some, Option.some.injEq, Prod.mk.injEq] at h
        obtain ⟨rfl, rfl⟩ := h
        obtain ⟨a2, b2, c2, d2, e2⟩ := readVs_some n (l.drop j) us m hr
        rw [List.length_drop] at c2
        exact ⟨by unfold rowB; rw [b2]; exact take_app a a2, by omega, by omega, by omega, e2⟩
    · cases h
theorem readRs_some : ∀ (n : Nat) (l : List UInt8) (rs : List (List Vl)) (k : Nat), readRs n l = some (rs, k) → l.take k = rs.flatMap rowB ∧ rs.length = n ∧ k ≤ l.length ∧ n ≤ k ∧ (∀ r ∈ rs, r.length ≤ 255 ∧ ∀ v ∈ r, v.good = true ∧ v.fits)
  | 0, l, vs, k, h => by
    simp only [readRs, Option.some.injEq, Prod.mk.injEq] at h
    obtain ⟨rfl, rfl⟩ := h
    simp
  | n + 1, l, vs, k, h => by
    rw [readRs] at h
    cases hv : readR l with
    | none => rw [hv] at h; cases h
    | some x =>
      obtain ⟨v, j⟩ := x
      rw [hv] at h
      simp only at h
      cases hr : readRs n (l.drop j) with
      | none => rw [hr] at h; cases h
      | some y =>
        obtain ⟨us, m⟩ := y
        rw [hr] at h
        simp only [Option.map_some, Option.some.injEq, Prod.mk.injEq] at h
        obtain ⟨rfl, rfl⟩ := h
        obtain ⟨a, b, c, d, e⟩ := readR_some hv
        obtain ⟨a2, b2, c2, d2, e2⟩ := readRs_some n (l.drop j) us m hr
        rw [List.length_drop] at c2
        refine ⟨by rw [List.flatMap_cons]; exact take_app a a2, by simp [b2], by omega, by omega, ?_⟩
        intro w hw
        rw [List.mem_cons] at hw
        rcases hw with rfl | hw
        · exact ⟨b, e⟩
        · exact e2 w hw
theorem readL_some {l : List UInt8} {ls : List (List Vl)} {k : Nat} (h : readL l = some (ls, k)) : l.take k = rowsL ls ∧ ls.length ≤ l.length ∧ 1 ≤ k ∧ k ≤ l.length ∧ (∀ r ∈ ls, r.length ≤ 255 ∧ ∀ v ∈ r, v.good = true ∧ v.fits) := by
  unfold readL at h
  cases hn : readN l with
  | none => rw [hn] at h; cases h
  | some x =>
    obtain ⟨n, j⟩ := x
    rw [hn] at h
    simp only at h
    obtain ⟨a, b, c, d, _⟩ := readN_some hn
    cases hr : readRs n (l.drop j) with
    | none => rw [hr] at h; cases h
    | some y =>
      obtain ⟨us, m⟩ := y
      rw [hr] at h
      simp only [Option.map_some, Option.some.injEq, Prod.mk.injEq] at h
      obtain ⟨rfl, rfl⟩ := h
      obtain ⟨a2, b2, c2, d2, e2⟩ := readRs_some n (l.drop j) us m hr
      rw [List.length_drop] at c2
      exact ⟨by unfold rowsL; rw [b2]; exact take_app a a2, by omega, by omega, by omega, e2⟩

theorem drop_app {α : Type} (a b : List α) : (a ++ b).drop a.length = b := by simp
theorem readS_str (most : Nat) (t rest : List UInt8) (hm : t.length ≤ most) (h : t.length < 18446744073709551616) : readS most ((numB t.length ++ t) ++ rest) = some (t, (numB t.length).length + t.length) := by
  unfold readS
  rw [List.append_assoc, readN_num _ _ h]
  simp only
  rw [if_pos ⟨hm, by simp⟩, drop_app]
  simp
theorem readV_val {v : Vl} (hg : v.good = true) (hf : v.fits) (rest : List UInt8) : readV (v.bytes ++ rest) = some (v, v.bytes.length) := by
  obtain ⟨k, n, s⟩ := v
  unfold Vl.good goodB at hg
  obtain ⟨f0, f1, f2⟩ := hf
  simp only at hg f0 f1 f2
  unfold Vl.bytes valB
  simp only
  have es : s.toList = [] → s = ⟨#[]⟩ := fun h => empty_of (by rw [h]; rfl)
  by_cases k0 : k = 0
  · subst k0
    simp at hg
    obtain ⟨rfl, hs⟩ := hg
    rw [if_neg (by omega), if_neg (by omega), if_neg (by omega)]
    rw [List.singleton_append, readV, if_pos rfl, es hs]
    rfl
  rw [if_neg k0] at hg
  by_cases k1 : k = 1
  · subst k1
    simp at hg
    obtain ⟨hn, hs⟩ := hg
    rw [if_pos rfl, List.singleton_append, readV, es hs]
    rcases hn with rfl | rfl <;> simp
  rw [if_neg k1] at hg ⊢
  by_cases k2 : k = 2
  · subst k2
    simp at hg
    rw [if_pos rfl, List.cons_append, readV, if_neg (by decide), if_neg (by decide), if_neg (by decide), if_pos rfl, readN_num _ _ (zig_lt f1 f2), es hg]
    simp [zag_zig f1 f2]
  rw [if_neg k2] at hg ⊢
  by_cases k3 : k = 3
  · subst k3
    simp at hg
    obtain ⟨rfl, hs⟩ := hg
    rw [if_pos rfl, List.cons_append, readV, if_neg (by decide), if_neg (by decide), if_neg (by decide), if_neg (by decide), if_pos rfl]
    unfold strB
    have := readS_str 60 s.data.toList rest (by rw [size_list]; exact hs) (by rw [size_list]; omega)
    rw [size_list] at this
    rw [this]
    simp
  rw [if_neg k3] at hg
  cases hg
theorem readVs_vals : ∀ (vs : List Vl) (rest : List UInt8), (∀ v ∈ vs, v.good = true ∧ v.fits) → readVs vs.length (vs.flatMap Vl.bytes ++ rest) = some (vs, (vs.flatMap Vl.bytes).length)
  | [], rest, _ => rfl
  | v :: vs, rest, h => by
    obtain ⟨h1, h2⟩ := h v (by simp)
    rw [List.length_cons, readVs, List.flatMap_cons, List.append_assoc, readV_val h1 h2]
    simp only
    rw [drop_app, readVs_vals vs rest (fun u hu => h u (by simp [hu]))]
    simp
theorem readR_row {vs : List Vl} (h255 : vs.length ≤ 255) (h : ∀ v ∈ vs, v.good = true ∧ v.fits) (rest : List UInt8) : readR (rowB vs ++ rest) = some (vs, (rowB vs).length) := by
  unfold readR rowB
  rw [List.append_assoc, readN_num _ _ (by omega)]
  simp only
  rw [if_pos h255, drop_app, readVs_vals vs rest h]
  simp
theorem readRs_rows : ∀ (ls : List (List Vl)) (rest : List UInt8), (∀ r ∈ ls, r.length ≤ 255 ∧ ∀ v ∈ r, v.good = true ∧ v.fits) → readRs ls.length (ls.flatMap rowB ++ rest) = some (ls, (ls.flatMap rowB).length)
  | [], rest, _ => rfl
  | v :: vs, rest, h => by
    obtain ⟨h1, h2⟩ := h v (by simp)
    rw [List.length_cons, readRs, List.flatMap_cons, List.append_assoc, readR_row h1 h2]
    simp only
    rw [drop_app, readRs_rows vs rest (fun u hu => h u (by simp [hu]))]
    simp
theorem readL_rows {ls : List (List Vl)} (hl : ls.length < 18446744073709551616) (h : ∀ r ∈ ls, r.length ≤ 255 ∧ ∀ v ∈ r, v.good = true ∧ v.fits) (rest : List UInt8) : readL (rowsL ls ++ rest) = some (ls, (rowsL ls).length) := by
  unfold readL rowsL
  rw [List.append_assoc, readN_num _ _ hl]
  simp only
  rw [drop_app, readRs_rows ls rest h]
  simp
/-- Cut short it isn't read. -/
theorem readL_cut {ls : List (List Vl)} (hl : ls.length < 18446744073709551616) (h : ∀ r ∈ ls, r.length ≤ 255 ∧ ∀ v ∈ r, v.good = true ∧ v.fits) {k : Nat} (hk : k < (rowsL ls).length) : readL ((rowsL ls).take k) = none := by
  cases hr : readL ((rowsL ls).take k) with
  | none => rfl
  | some x =>
    obtain ⟨us, m⟩ := x
    exfalso
    obtain ⟨a, b, c, d, e⟩ := readL_some hr
    have d' : m ≤ k := by rw [List.length_take] at d; omega
    have hlen : ((rowsL ls).take k).length ≤ (rowsL ls).length := by rw [List.length_take]; omega
    rw [List.take_take, Nat.min_eq_left d'] at a
    have hm : (rowsL us).length = m := by rw [← a, List.length_take]; omega
    have h1 := readL_rows hl h []
    rw [List.append_nil] at h1
    have hn0 : us.length < 18446744073709551616 := by
      unfold readL at hr
      cases hn : readN ((rowsL ls).take k) with
      | none => rw [hn] at hr; cases hr
      | some y =>
        obtain ⟨n, j⟩ := y
        rw [hn] at hr
        simp only at hr
        cases hq : readRs n (((rowsL ls).take k).drop j) with
        | none => rw [hq] at hr; cases hr
        | some z =>
          obtain ⟨u2, m2⟩ := z
          rw [hq] at hr
          simp only [Option.map_some, Option.some.injEq, Prod.mk.injEq] at hr
          obtain ⟨rfl, rfl⟩ := hr
          have := (readRs_some _ _ _ _ hq).2.1
          have := (readN_some hn).2.2.2.1
          omega
    have h2 := readL_rows hn0 e ((rowsL ls).drop m)
    rw [← a, List.take_append_drop, h1] at h2
    simp only [Option.some.injEq, Prod.mk.injEq] at h2
    obtain ⟨rfl, h3⟩ := h2
    omega
end Go.Proofs.YtnfpomjcofhppaaDoor
