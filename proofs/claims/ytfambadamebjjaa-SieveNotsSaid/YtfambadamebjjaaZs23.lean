import Derived.Test.YtfambadamebjjaaZs20
import Derived.Deep.DeepCutAuto
import Derived.Great.BuildSlice
import Derived.Deep.WholeRow
import Derived.Test.YtfambadamebjjaaZs22
import Derived.Test.YtfambadamebjjaaZs11
import Derived.OwnWalk
set_option linter.unusedSimpArgs false
set_option linter.unusedVariables false
namespace Go.Proofs.Ytfambadamebjjaa
open Go.RowKit

def wdArr : Array Value := #[.string ⟨#[83, 69, 76, 69, 67, 84]⟩, .string ⟨#[70, 82, 79, 77]⟩, .string ⟨#[87, 72, 69, 82, 69]⟩, .string ⟨#[71, 82, 79, 85, 80]⟩, .string ⟨#[79, 82, 68, 69, 82]⟩, .string ⟨#[66, 89]⟩, .string ⟨#[76, 73, 77, 73, 84]⟩, .string ⟨#[65, 83, 67]⟩, .string ⟨#[68, 69, 83, 67]⟩, .string ⟨#[65, 78, 68]⟩, .string ⟨#[79, 82]⟩, .string ⟨#[78, 79, 84]⟩, .string ⟨#[73, 83]⟩, .string ⟨#[73, 78]⟩, .string ⟨#[66, 69, 84, 87, 69, 69, 78]⟩, .string ⟨#[78, 85, 76, 76]⟩, .string ⟨#[84, 82, 85, 69]⟩, .string ⟨#[70, 65, 76, 83, 69]⟩, .string ⟨#[67, 79, 85, 78, 84]⟩, .string ⟨#[83, 85, 77]⟩, .string ⟨#[77, 73, 78]⟩, .string ⟨#[77, 65, 88]⟩]
set_option maxRecDepth 100000 in
set_option maxHeartbeats 3200000 in
theorem refWord_gen (s : ByteArray) (w : World) (f : Nat → ByteArray) (b : Bool)
  (HC : Hid (∀ k, k < 22 → (w.alloc (.cells wdArr 156)).cell? ⟨w.heap.size, k, none⟩ = some (.string (f k))))
  (HB : Hid ((∀ i, i < 22 → ((f i).toList == s.toList) = false) → b = false)) (HB2 : Hid (∀ i, i < 22 → ((f i).toList == s.toList) = true → b = true)) :
  Calls Try.prog 73 #[.string s] w fun e w' => e = .returned (.bool b) ∧ w.grownBy w' none := by
 go_enter Try.func73, Try.ntmps73
 go_upto_region 1 with (fail)
 go_cut [3] (fun a wx => a = .pointer (some ⟨w.heap.size, 0, none⟩) ∧ Hid (∀ k, k < 22 → wx.cell? ⟨w.heap.size, k, none⟩ = some (.string (f k))) ∧ Hid (w.grownBy wx none))
 case first =>
  go_wp2_with (first | (refine wpList_buildTo rfl 156 _ rfl (some 5) rfl wdArr (by kernel_rfl) ?_) | (refine wpList_store_rowTo rfl 156 (.tmp 3) (.tmp 5) rfl rfl w.heap.size wdArr rfl rfl 156 _ (heap_alloc_new w _) (by kernel_rfl) (by kernel_rfl) (by kernel_rfl) ?_))
  rw [World.setRow_alloc_new]
  go_wp2_with fail
  go_meet
  exact ⟨rfl, HC, Lib.hid (World.grownBy_alloc w (.cells wdArr 156) none)⟩
 case rest =>
 obtain ⟨rfl, HC2, KG⟩ := hcut
 clear HC
 go_wp2_with fail
 go_loop [6] (fun i => ∃ k : Nat, i = .int .i64 k ∧ k ≤ 22 ∧ Hid (∀ i, i < k → ((f i).toList == s.toList) = false)) (fun i => 22 - (intOf i).toNat)
 case atStart => exact ⟨0, rfl, by omega, Lib.hid fun i hi => by omega⟩
 case round =>
  obtain ⟨k, rfl, hk, U⟩ := hrel
  by_cases hlt : k < 22
  ·have c0 := HC2.out k hlt
   have k0 : (0 : Int) ≤ k := by omega
   have k1 : (k : Int) < 22 := by omega
   obtain ⟨y, hy⟩ : ∃ y, y = f k := ⟨_, rfl⟩
   rw [← hy] at c0
   cases hx : y.toList == s.toList
   ·have U2 : Hid (∀ i, i < k + 1 → ((f i).toList == s.toList) = false) := Lib.hid fun i hi => by
     by_cases e : i = k
     ·rw [e, ← hy]; exact hx
     ·exact U.out i (by omega)
    clear hy
    go_wp2_with fail
    go_round
    case rel => exact ⟨k + 1, by go_num, by omega, U2⟩
    case measure => simp [intOf]; omega
   ·have hb := HB2.out k hlt (by rw [← hy]; exact hx)
    subst hb
    clear hy
    go_wp2_with fail
    go_ret
    exact ⟨rfl, KG.out⟩
  ·obtain rfl : k = 22 := by omega
   have hb := HB.out U.out
   subst hb
   go_wp2_with fail
   go_ret
   exact ⟨rfl, KG.out⟩
def wdF (k : Nat) : ByteArray := ⟨(words.getD k []).toArray⟩
theorem wdArr_eq : wdArr = (words.map fun l => Value.string ⟨l.toArray⟩).toArray := by rfl
theorem refWord_any (s : ByteArray) (w : World) :
  Calls Try.prog 73 #[.string s] w fun e w' => e = .returned (.bool (wordB s.data.toList)) ∧ w.grownBy w' none := by
 refine refWord_gen s w wdF (wordB s.data.toList) (Lib.hid fun k hk => ?_) (Lib.hid fun h => ?_) (Lib.hid fun i hi h => ?_)
 ·have e := heap_alloc_new w (.cells wdArr 156)
  rw [cell_of_row _ _ k _ _ _ e, wdArr_eq]
  have hl : k < words.length := hk
  simp [List.getD, hl, wdF]
 ·unfold wordB
  rw [List.contains_eq_mem, decide_eq_false_iff_not]
  intro hm
  obtain ⟨i, hi, e⟩ := List.getElem_of_mem hm
  have := h i hi
  rw [Lib.toList_data, Lib.toList_data, beq_eq_false_iff_ne] at this
  exact this (by simp [wdF, List.getD, hi, e])
 ·unfold wordB
  rw [Lib.toList_data, Lib.toList_data, beq_iff_eq] at h
  rw [List.contains_eq_mem, decide_eq_true_iff, ← h]
  have hl : i < words.length := hi
  simp [List.getD, hl, wdF]
end Go.Proofs.Ytfambadamebjjaa
namespace Go.Proofs.Ytfambadamebjjaa
open Go.RowKit

def Blk (s : ByteArray) (k q : Nat) : Prop := ∀ j, k ≤ j → j < q → blankB (s.data.toList.getD j 0) = true
theorem runL_all (f : UInt8 → Bool) : ∀ (l : List UInt8) (j : Nat), j < runL f l → f (l.getD j 0) = true
 | [], j, h => by simp [runL] at h
 | c :: r, j, h => by
  rw [runL] at h
  split at h
  ·rename_i hc
   cases j with
   | zero => simpa using hc
   | succ j => have := runL_all f r j (by omega); simpa using this
  ·omega
theorem blk_nxt (s : ByteArray) (k : Nat) : Blk s k (nxt s k) := by
 intro j h1 h2
 unfold nxt at h2
 have := runL_all blankB (s.data.toList.drop k) (j - k) (by omega)
 rw [List.getD, List.getElem?_drop, show k + (j - k) = j by omega] at this
 exact this
end Go.Proofs.Ytfambadamebjjaa
namespace Go.Proofs.Ytfambadamebjjaa
open Go.RowKit

def tNull : List UInt8 := [78, 85, 76, 76]
def tTrue : List UInt8 := [84, 82, 85, 69]
def tFalse : List UInt8 := [70, 65, 76, 83, 69]
def signsL : List (List UInt8) := [[61], [60, 62], [60], [60, 61], [62], [62, 61], [42], [44], [40], [41]]
structure TkW (k : Nat) (x : List UInt8) : Prop where
 word : wordB x = true → k = 5
 sign : x ∈ signsL → k = 4
 lit : k = 2 ∨ k = 3 → readC x = 0
 only : readC x = 0 → k = 2 ∨ k = 3 ∨ (k = 5 ∧ (x = tNull ∨ x = tTrue ∨ x = tFalse))
 name : k = 1 → nameL x = true ∧ wordB x = false
 wordy : k = 5 → wordB x = true
 signy : k = 4 → x ∈ signsL
theorem word_head (c : UInt8) (r : List UInt8) (h : wordB (c :: r) = true) : 65 ≤ c.toNat ∧ c.toNat ≤ 90 := by
 have h1 : ∀ w ∈ words, 65 ≤ (w.headD 0).toNat ∧ (w.headD 0).toNat ≤ 90 := by decide +kernel
 exact h1 _ (List.contains_iff_mem.1 h)
theorem sign_head (c : UInt8) (r : List UInt8) (h : c :: r ∈ signsL) : c ∈ [(61 : UInt8), 60, 62, 42, 44, 40, 41] := by
 have h1 : ∀ w ∈ signsL, w.headD 0 ∈ [(61 : UInt8), 60, 62, 42, 44, 40, 41] := by decide +kernel
 exact h1 _ h
theorem sign_part (c : UInt8) (h : c ∈ [(61 : UInt8), 60, 62, 42, 44, 40, 41]) : partB c = false ∧ digB c = false ∧ c ≠ 39 ∧ c ≠ 45 ∧ c.toNat < 65 := by
 have h1 : ∀ c ∈ [(61 : UInt8), 60, 62, 42, 44, 40, 41], partB c = false ∧ digB c = false ∧ c ≠ 39 ∧ c ≠ 45 ∧ c.toNat < 65 := by decide +kernel
 exact h1 c h
theorem three_word : wordB tNull = true ∧ wordB tTrue = true ∧ wordB tFalse = true := by decide +kernel
theorem readC_head (c : UInt8) (r : List UInt8) (h1 : c ≠ 39) (h2 : digB c = false) (h3 : c ≠ 45) (h : readC (c :: r) = 0) : c :: r = tNull ∨ c :: r = tTrue ∨ c :: r = tFalse := by
 unfold readC at h
 split at h
 ·rename_i e; exact .inl e
 ·split at h
  ·rename_i e; exact .inr (.inr e)
  ·split at h
   ·rename_i e; exact .inr (.inl e)
   ·simp only [h1, if_false] at h
    exfalso
    unfold intC at h
    split at h
    ·rename_i hw
     rcases wrB_cases hw with ⟨x, e, _⟩ | ⟨_, e, _⟩
     ·exact h3 (List.cons.inj e).1
     ·rw [List.all_cons, h2] at e; simp at e
    ·cases h
theorem litC_zero (x : List UInt8) (h : litC x = 0) : readC x = 0 := by
 unfold litC at h
 split at h
 ·assumption
 ·cases h
 ·cases h
theorem ne39 {c : UInt8} (h : ¬ c.toNat = 39) : c ≠ 39 := fun e => h (by rw [e]; rfl)
theorem ne45 {c : UInt8} (h : ¬ c.toNat = 45) : c ≠ 45 := fun e => h (by rw [e]; rfl)
theorem tok_part (c : UInt8) (h : digB c = true) : partB c = true := by simp [partB, h]
theorem take_run (c : UInt8) (r : List UInt8) (h : partB c = true) : (c :: r).take (runL partB (c :: r)) = c :: r.take (runL partB r) := by
 simp [runL, h]
theorem sign_take (c : UInt8) (r : List UInt8) (h : ¬ signN (c :: r) = 0) : (c :: r).take (signN (c :: r)) ∈ signsL := by
 unfold signN at h ⊢
 by_cases hp : (Lib.hasPrefix (c :: r) [60, 62] || Lib.hasPrefix (c :: r) [60, 61] || Lib.hasPrefix (c :: r) [62, 61]) = true
 ·rw [if_pos hp]
  cases r with
  | nil => simp [Lib.hasPrefix] at hp
  | cons d r =>
   simp [Lib.hasPrefix] at hp
   rcases hp with (⟨rfl, rfl⟩ | ⟨rfl, rfl⟩) | ⟨rfl, rfl⟩ <;> (simp only [List.take_succ_cons, List.take_zero]; decide)
 ·rw [if_neg hp] at h ⊢
  simp only at h ⊢
  split at h
  ·rename_i hc
   rw [if_pos hc]
   have h1 : ∀ c ∈ [(61 : UInt8), 60, 62, 42, 44, 40, 41], [c] ∈ signsL := by decide +kernel
   exact h1 c (List.contains_iff_mem.1 hc)
  ·exact absurd rfl h
theorem tokL_w (l : List UInt8) (k n : Nat) (h : tokL l = (k, n, 0)) : TkW k (l.take n) := by
 match l, h with
 | [], h => simp [tokL] at h
 | c :: r, h =>
  simp only [tokL] at h
  by_cases h39 : c.toNat = 39
  ·rw [if_pos h39] at h
   simp only [Prod.mk.injEq] at h
   obtain ⟨rfl, rfl, hl⟩ := h
   have hl := litC_zero _ hl
   rw [Nat.add_comm, List.take_succ_cons] at hl ⊢
   refine ⟨fun hw => ?_, fun hs => ?_, fun _ => hl, fun _ => .inr (.inl rfl), fun e => (by cases e), fun e => (by cases e), fun e => (by cases e)⟩
   ·have := word_head _ _ hw; omega
   ·exact absurd (UInt8.toNat_inj.1 h39) (sign_part _ (sign_head _ _ hs)).2.2.1
  ·rw [if_neg h39] at h
   by_cases h45 : c.toNat = 45
   ·rw [if_pos h45] at h
    simp only [Prod.mk.injEq] at h
    obtain ⟨rfl, rfl, hl⟩ := h
    have hl := litC_zero _ hl
    rw [Nat.add_comm, List.take_succ_cons] at hl ⊢
    refine ⟨fun hw => ?_, fun hs => ?_, fun _ => hl, fun _ => .inl rfl, fun e => (by cases e), fun e => (by cases e), fun e => (by cases e)⟩
    ·have := word_head _ _ hw; omega
    ·exact absurd (UInt8.toNat_inj.1 h45) (sign_part _ (sign_head _ _ hs)).2.2.2.1
   ·rw [if_neg h45] at h
    by_cases hd : digB c = true
    ·rw [if_pos hd] at h
     simp only [Prod.mk.injEq] at h
     obtain ⟨rfl, rfl, hl⟩ := h
     have hl := litC_zero _ hl
     rw [take_run c r (tok_part c hd)] at hl ⊢
     refine ⟨fun hw => ?_, fun hs => ?_, fun _ => hl, fun _ => .inl rfl, fun e => (by cases e), fun e => (by cases e), fun e => (by cases e)⟩
     ·have := word_head _ _ hw
      have := digB_iff.1 hd
      omega
     ·have := (sign_part _ (sign_head _ _ hs)).2.1
      rw [this] at hd; cases hd
    ·rw [if_neg hd] at h
     have hd : digB c = false := by simpa using hd
     by_cases hp : partB c = true
     ·rw [if_pos hp] at h
      have hx := take_run c r hp
      rw [hx] at h
      have hsg : ∀ y, ¬ (c :: y ∈ signsL) := fun y hs => by
       have := (sign_part _ (sign_head _ _ hs)).1
       rw [this] at hp; cases hp
      have hrd := readC_head c (r.take (runL partB r)) (ne39 h39) hd (ne45 h45)
      by_cases hw : wordB (c :: r.take (runL partB r)) = true
      ·rw [if_pos hw] at h
       simp only [Prod.mk.injEq] at h
       obtain ⟨rfl, rfl, _⟩ := h
       rw [hx]
       exact ⟨fun _ => rfl, fun hs => absurd hs (hsg _), fun e => (by rcases e with e | e <;> cases e), fun e => .inr (.inr ⟨rfl, hrd e⟩), fun e => (by cases e), fun _ => hw, fun e => (by cases e)⟩
      ·rw [if_neg hw] at h
       by_cases hn : nameL (c :: r.take (runL partB r)) = true
       ·rw [if_pos hn] at h
        simp only [Prod.mk.injEq] at h
        obtain ⟨rfl, rfl, _⟩ := h
        rw [hx]
        refine ⟨fun e => absurd e hw, fun hs => absurd hs (hsg _), fun e => (by rcases e with e | e <;> cases e), fun e => ?_, fun _ => ⟨hn, by simpa using hw⟩, fun e => (by cases e), fun e => (by cases e)⟩
        rcases hrd e with e | e | e <;> rw [e] at hw
        ·exact absurd three_word.1 hw
        ·exact absurd three_word.2.1 hw
        ·exact absurd three_word.2.2 hw
       ·rw [if_neg hn] at h
        simp at h
     ·rw [if_neg hp] at h
      by_cases hs : signN (c :: r) = 0
      ·rw [if_pos hs] at h; simp at h
      ·rw [if_neg hs] at h
       simp only [Prod.mk.injEq] at h
       obtain ⟨rfl, rfl, _⟩ := h
       have hm := sign_take c r hs
       obtain ⟨y, hy⟩ : ∃ y, (c :: r).take (signN (c :: r)) = c :: y := by
        obtain ⟨z, hz⟩ : ∃ z, signN (c :: r) = z + 1 := ⟨signN (c :: r) - 1, by omega⟩
        exact ⟨r.take z, by rw [hz]; rfl⟩
       rw [hy] at hm ⊢
       have hh := sign_part c (sign_head c y hm)
       refine ⟨fun hw => ?_, fun _ => rfl, fun e => (by rcases e with e | e <;> cases e), fun e => ?_, fun e => (by cases e), fun e => (by cases e), fun _ => hm⟩
       ·have := word_head _ _ hw; omega
       ·have hrd := readC_head c y (ne39 h39) hd (ne45 h45) e
        have hw : wordB (c :: y) = true := by
         rcases hrd with e | e | e
         ·rw [e]; exact three_word.1
         ·rw [e]; exact three_word.2.1
         ·rw [e]; exact three_word.2.2
        have := word_head _ _ hw; omega
theorem tkW_end : TkW 0 [] := ⟨fun e => (by revert e; decide), fun e => (by revert e; decide), fun e => (by rcases e with e | e <;> cases e), fun e => (by rw [readC_nil] at e; cases e), fun e => (by cases e), fun e => (by cases e), fun e => (by cases e)⟩
theorem lexF_w (s : ByteArray) : ∀ (f k : Nat) (acc l : List Tk), (∀ t ∈ acc, TkW t.kind t.text.data.toList) → lexF s f k acc = .ok l → ∀ t ∈ l, TkW t.kind t.text.data.toList
 | 0, k, acc, l, hA, h => by
  simp only [lexF] at h
  cases h; exact hA
 | f + 1, k, acc, l, hA, h => by
  have hr := lexF_round s f k acc
  by_cases he : nxt s k = s.size
  ·rw [hr.1 he] at h
   cases h
   intro t ht
   rcases List.mem_append.1 ht with ht | ht
   ·exact hA t ht
   ·obtain rfl : t = _ := by simpa using ht
    exact tkW_end
  ·cases ht : tokL (s.data.toList.drop (nxt s k)) with | mk kd NC =>
   obtain ⟨N, c⟩ := NC
   have h2 := hr.2 he kd N c ht
   by_cases h0 : c = 0
   ·subst h0
    by_cases hl : acc.length = 250
    ·rw [h2.2.1 rfl hl] at h; cases h
    ·rw [h2.2.2 rfl hl] at h
     refine lexF_w s f _ _ l (fun t ht' => ?_) h
     rcases List.mem_append.1 ht' with ht' | ht'
     ·exact hA t ht'
     ·obtain rfl : t = _ := by simpa using ht'
      have := tokL_w _ _ _ ht
      have e : (s.extract (nxt s k) (nxt s k + N)).data.toList = (s.data.toList.drop (nxt s k)).take N := by simp
      simp only [e]
      exact this
   ·rw [h2.1 h0] at h; cases h
theorem lexL_w (s : ByteArray) (l : List Tk) (h : lexL s = .ok l) : ∀ t ∈ l, TkW t.kind t.text.data.toList := by
 unfold lexL at h
 split at h
 ·cases h
 ·exact lexF_w s _ 0 [] l (by simp) h
end Go.Proofs.Ytfambadamebjjaa
namespace Go.Proofs.Ytfambadamebjjaa
open Go.RowKit

theorem three_of {w : World} {b : Nat} {v0 v1 v2 : Value} {T : TypeId} (h : w.heap[b]? = some (.cells #[v0, v1, v2] T (0, 0))) : (w.cell? ⟨b, 0, none⟩ = some v0 ∧ w.cell? ⟨b, 1, none⟩ = some v1 ∧ w.cell? ⟨b, 2, none⟩ = some v2) ∧ w.frozen? ⟨b, 0, none⟩ = false ∧ w.frozen? ⟨b, 1, none⟩ = false ∧ w.frozen? ⟨b, 2, none⟩ = false := by
 have c0 := cell_of_row _ _ 0 _ _ _ h
 have c1 := cell_of_row _ _ 1 _ _ _ h
 have c2 := cell_of_row _ _ 2 _ _ _ h
 simp at c0 c1 c2
 exact ⟨⟨c0, c1, c2⟩, frozen_of_row _ _ 0 _ _ h, frozen_of_row _ _ 1 _ _ h, frozen_of_row _ _ 2 _ _ h⟩
theorem set3 {w : World} {b : Nat} {v0 v1 v2 u0 u1 u2 : Value} {T : TypeId} (h : w.heap[b]? = some (.cells #[v0, v1, v2] T (0, 0))) : (((w.setCell ⟨b, 0, none⟩ u0).setCell ⟨b, 1, none⟩ u1).setCell ⟨b, 2, none⟩ u2).heap[b]? = some (.cells #[u0, u1, u2] T (0, 0)) := by
 have h0 := heap_setCell_same _ _ 0 _ _ u0 h
 have h1 := heap_setCell_same _ _ 1 _ _ u1 h0
 have h2 := heap_setCell_same _ _ 2 _ _ u2 h1
 simpa using h2
theorem grown_set3 {w0 w : World} {row : Option Nat} (h : w0.grownBy w row) {b : Nat} (hb : w0.heap.size ≤ b) (u0 u1 u2 : Value) : w0.grownBy (((w.setCell ⟨b, 0, none⟩ u0).setCell ⟨b, 1, none⟩ u1).setCell ⟨b, 2, none⟩ u2) row :=
 grown_setnewX (grown_setnewX (grown_setnewX h hb 0 u0) hb 1 u1) hb 2 u2
theorem blk_grown {w w' : World} (h : w.grownBy w' none) {g : Nat} {o : Obj} (hg : w.heap[g]? = some o) : w'.heap[g]? = some o :=
 (h.block g (Array.getElem?_eq_some_iff.1 hg).1 (by simp)).trans hg
end Go.Proofs.Ytfambadamebjjaa
