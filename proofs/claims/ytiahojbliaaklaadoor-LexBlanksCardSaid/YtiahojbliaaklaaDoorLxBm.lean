/- Tokens with blanks between are the same tokens: the mathematics. -/
import Derived.Test.YtiahojbliaaklaaDoorLxSq
import Derived.Test.YtiahojbliaaklaaDoorLxVm
namespace Go.Proofs.YtiahojbliaaklaaDoor
open Go.RowKit

theorem run_stop (f : UInt8 → Bool) (b : UInt8) (hb : f b = false) : ∀ (l rest : List UInt8), runL f (l.take (runL f l) ++ b :: rest) = runL f l
  | [], rest => by simp [runL, hb]
  | c :: r, rest => by
    by_cases h : f c = true
    · have e : runL f (c :: r) = runL f r + 1 := by rw [runL, h]; rfl
      rw [e, List.take_succ_cons, List.cons_append, runL, h]
      simp [run_stop f b hb r rest]
    · have h' : f c = false := by simpa using h
      have e : runL f (c :: r) = 0 := by rw [runL, h']; rfl
      rw [e, List.take_zero, List.nil_append, runL, hb]; rfl
theorem qN_stop (b : UInt8) (hb : b ≠ 39) : ∀ (t rest : List UInt8), qN (qs t ++ 39 :: b :: rest) = (qs t).length + 1
  | [], rest => by
    show qN (39 :: b :: rest) = _
    rw [qN_end _ (by simp [Lib.hasPrefix, List.isPrefixOf, Ne.symm hb])]; rfl
  | c :: t, rest => by
    have e : qs (c :: t) ++ 39 :: b :: rest = q1 c ++ (qs t ++ 39 :: b :: rest) := by simp [qs]
    rw [e, qN_q1, qN_stop b hb t rest]
    simp [qs]; omega
theorem lit_quoted {r : List UInt8} (h : litC (39 :: r) = 0) : ∃ t, r = qs t ++ [39] := by
  have hr : readC (39 :: r) = textC (readB r) := by unfold readC; simp
  rcases litC_cases (39 :: r) with ⟨h1, _⟩ | ⟨_, h2⟩ | ⟨_, h2⟩
  · rw [hr] at h1
    cases hb : readB r with
    | none => rw [hb] at h1; exact absurd h1 (by decide)
    | some t => exact ⟨t, qs_of_readB _ _ _ (Nat.le_refl _) hb⟩
  · omega
  · omega
theorem sign_stop (l rest : List UInt8) (h : signN l ≠ 0) : signN (l.take (signN l) ++ 32 :: rest) = signN l := by
  match l, h with
  | [], h => exact absurd rfl h
  | [a], h =>
    have hp : ∀ x y : UInt8, Lib.hasPrefix [a] [x, y] = false := fun x y => by simp [Lib.hasPrefix, List.isPrefixOf]
    have e1 : signN [a] = 1 := by
      unfold signN at h ⊢
      simp only [hp, Bool.or_self, Bool.false_eq_true, if_false] at h ⊢
      split at h
      · rename_i hc; rw [if_pos hc]
      · exact absurd rfl h
    rw [e1]
    have hp2 : ∀ x y : UInt8, y ≠ 32 → Lib.hasPrefix (a :: 32 :: rest) [x, y] = false := fun x y hy => by simp [Lib.hasPrefix, List.isPrefixOf, hy]
    show signN (a :: 32 :: rest) = 1
    unfold signN at e1 ⊢
    simp only [hp, hp2 60 62 (by decide), hp2 60 61 (by decide), hp2 62 61 (by decide), Bool.or_self, Bool.false_eq_true, if_false] at e1 ⊢
    exact e1
  | a :: b :: r, h =>
    have hpp : ∀ (x y : UInt8) (z : List UInt8), Lib.hasPrefix (a :: b :: z) [x, y] = Lib.hasPrefix [a, b] [x, y] := fun x y z => by simp [Lib.hasPrefix, List.isPrefixOf]
    by_cases h2 : (Lib.hasPrefix [a, b] [60, 62] || Lib.hasPrefix [a, b] [60, 61] || Lib.hasPrefix [a, b] [62, 61]) = true
    · have e2 : ∀ z, signN (a :: b :: z) = 2 := fun z => by unfold signN; simp only [hpp]; rw [if_pos h2]
      rw [e2 r]
      exact e2 (32 :: rest)
    · have hp2 : ∀ x y : UInt8, y ≠ 32 → Lib.hasPrefix (a :: 32 :: rest) [x, y] = false := fun x y hy => by simp [Lib.hasPrefix, List.isPrefixOf, hy]
      have e1 : signN (a :: b :: r) = 1 := by
        unfold signN at h ⊢
        simp only [hpp] at h ⊢
        rw [if_neg h2] at h ⊢
        split at h
        · rename_i hc; rw [if_pos hc]
        · exact absurd rfl h
      rw [e1]
      show signN (a :: 32 :: rest) = 1
      unfold signN at e1 ⊢
      simp only [hpp, hp2 60 62 (by decide), hp2 60 61 (by decide), hp2 62 61 (by decide), Bool.or_self, Bool.false_eq_true, if_false] at e1 ⊢
      rw [if_neg h2] at e1
      exact e1
/-- What begins a text begins it too where a blank stands behind. -/
theorem tok_stop (l : List UInt8) (kd M : Nat) (h : tokL l = (kd, M, 0)) (rest : List UInt8) : tokL (l.take M ++ 32 :: rest) = (kd, M, 0) := by
  match l, h with
  | [], h => simp [tokL] at h
  | c :: r, h =>
    have p32 : partB 32 = false := by decide
    simp only [tokL] at h
    split at h
    · rename_i h39
      simp only [Prod.mk.injEq] at h
      obtain ⟨rfl, rfl, hl⟩ := h
      have hc : c = 39 := UInt8.toNat_inj.1 h39
      subst hc
      rw [Nat.add_comm 1 (qN r), List.take_succ_cons] at hl ⊢
      obtain ⟨t, ht⟩ := lit_quoted hl
      rw [ht] at hl ⊢
      have hq := qN_stop 32 (by decide) t rest
      have hlen : (qs t ++ [39]).length = qN r := by rw [← ht, List.length_take]; have := qN_le r; omega
      rw [List.length_append, List.length_singleton] at hlen
      have e : (39 :: (qs t ++ [39])) ++ 32 :: rest = 39 :: (qs t ++ 39 :: 32 :: rest) := by simp
      rw [e]
      unfold tokL
      simp only [h39, if_true, hq]
      have e2 : (39 :: (qs t ++ 39 :: 32 :: rest)).take (1 + ((qs t).length + 1)) = 39 :: (qs t ++ [39]) := by
        rw [Nat.add_comm 1, List.take_succ_cons]
        congr 1
        rw [show qs t ++ 39 :: 32 :: rest = (qs t ++ [39]) ++ 32 :: rest by simp, show (qs t).length + 1 = (qs t ++ [39]).length by simp, List.take_left]
      rw [e2, hl, ← hlen, Nat.add_comm 1]
    · rename_i h39
      split at h
      · rename_i h45
        simp only [Prod.mk.injEq] at h
        obtain ⟨rfl, rfl, hl⟩ := h
        rw [Nat.add_comm 1 (runL partB r), List.take_succ_cons] at hl ⊢
        have hr := run_stop partB 32 p32 r rest
        rw [List.cons_append]
        unfold tokL
        simp only [h45, show ((45 : Nat) = 39) = False by decide, if_false, if_true, hr]
        have hk := runL_le partB r
        rw [Nat.add_comm 1 (runL partB r), List.take_succ_cons, List.take_left' (by rw [List.length_take]; omega), hl]
      · rename_i h45
        have hr := run_stop partB 32 p32 (c :: r) rest
        have hk := runL_le partB (c :: r)
        split at h
        · rename_i hd
          simp only [Prod.mk.injEq] at h
          obtain ⟨rfl, rfl, hl⟩ := h
          have hp : partB c = true := by unfold partB; rw [hd]; simp
          have hN : runL partB (c :: r) = runL partB r + 1 := by rw [runL, hp]; rfl
          have ht : ((c :: r).take (runL partB (c :: r)) ++ 32 :: rest).take (runL partB (c :: r)) = (c :: r).take (runL partB (c :: r)) := List.take_left' (by rw [List.length_take]; omega)
          generalize hX : (c :: r).take (runL partB (c :: r)) ++ 32 :: rest = X at *
          have hX2 : ∃ z, X = c :: z := by rw [← hX, hN, List.take_succ_cons]; exact ⟨_, rfl⟩
          obtain ⟨z, rfl⟩ := hX2
          unfold tokL
          simp only [h39, h45, hd, if_false, if_true, hr, ht, hl]
        · rename_i hd
          split at h
          · rename_i hp
            have hN : runL partB (c :: r) = runL partB r + 1 := by rw [runL, hp]; rfl
            have ht : ((c :: r).take (runL partB (c :: r)) ++ 32 :: rest).take (runL partB (c :: r)) = (c :: r).take (runL partB (c :: r)) := List.take_left' (by rw [List.length_take]; omega)
            have hM : M = runL partB (c :: r) := by
              split at h
              · simp only [Prod.mk.injEq] at h; exact h.2.1.symm
              · split at h <;> (simp only [Prod.mk.injEq] at h; exact h.2.1.symm)
            rw [hM]
            generalize hX : (c :: r).take (runL partB (c :: r)) ++ 32 :: rest = X at *
            have hX2 : ∃ z, X = c :: z := by rw [← hX, hN, List.take_succ_cons]; exact ⟨_, rfl⟩
            obtain ⟨z, rfl⟩ := hX2
            unfold tokL
            simp only [h39, h45, hd, hp, if_false, if_true, hr, ht]
            rw [hM] at h
            exact h
          · rename_i hp
            split at h
            · simp only [Prod.mk.injEq] at h; omega
            · rename_i hs
              simp only [Prod.mk.injEq] at h
              obtain ⟨rfl, rfl, _⟩ := h
              have hss := sign_stop (c :: r) rest hs
              obtain ⟨d, hd1⟩ : ∃ d, signN (c :: r) = d + 1 := ⟨signN (c :: r) - 1, by omega⟩
              generalize hX : (c :: r).take (signN (c :: r)) ++ 32 :: rest = X at *
              have hX2 : ∃ z, X = c :: z := by rw [← hX, hd1, List.take_succ_cons]; exact ⟨_, rfl⟩
              obtain ⟨z, rfl⟩ := hX2
              unfold tokL
              simp only [h39, h45, hd, hp, Bool.false_eq_true, if_false, hss, hs]
end Go.Proofs.YtiahojbliaaklaaDoor
