/- The tokens of a text stand one behind the other, blanks between. -/
import Derived.Test.YtiahojbliaaklaaGreatDoorLxL
namespace Go.Proofs.YtiahojbliaaklaaGreatDoor
open Go.RowKit

/-- Blanks from k to q. -/
def Blk (s : ByteArray) (k q : Nat) : Prop := ∀ j, k ≤ j → j < q → blankB (s.data.toList.getD j 0) = true
inductive Seq (s : ByteArray) : Nat → List Tk → Prop
  | last (k : Nat) (hk : k ≤ s.size) (hb : Blk s k s.size) : Seq s k [⟨0, ⟨#[]⟩, s.size⟩]
  | more (k q M kd : Nat) (r : List Tk) (h1 : k ≤ q) (h2 : q + M ≤ s.size) (h3 : 1 ≤ M) (hk : kd ≠ 0) (hb : Blk s k q) (ht : tokL (s.data.toList.drop q) = (kd, M, 0)) (hr : Seq s (q + M) r) : Seq s k (⟨kd, s.extract q (q + M), q⟩ :: r)
theorem runL_all (f : UInt8 → Bool) : ∀ (l : List UInt8) (j : Nat), j < runL f l → f (l.getD j 0) = true
  | [], j, h => by simp [runL] at h
  | c :: r, j, h => by
    rw [runL] at h
    split at h
    · rename_i hc
      cases j with
      | zero => simpa using hc
      | succ j => have := runL_all f r j (by omega); simpa using this
    · omega
theorem blk_nxt (s : ByteArray) (k : Nat) : Blk s k (nxt s k) := by
  intro j h1 h2
  unfold nxt at h2
  have := runL_all blankB (s.data.toList.drop k) (j - k) (by omega)
  rw [List.getD, List.getElem?_drop, show k + (j - k) = j by omega] at this
  exact this
theorem lexF_seq (s : ByteArray) : ∀ (f k : Nat) (acc l : List Tk), k ≤ s.size → s.size - k < f → lexF s f k acc = .ok l → ∃ r, l = acc ++ r ∧ Seq s k r
  | 0, _, _, _, _, hf, _ => by omega
  | f + 1, k, acc, l, hk, hf, h => by
    have hr := lexF_round s f k acc
    have hn := nxt_le s k hk
    by_cases he : nxt s k = s.size
    · rw [hr.1 he] at h
      cases h
      exact ⟨_, rfl, .last k hk (he ▸ blk_nxt s k)⟩
    · cases ht : tokL (s.data.toList.drop (nxt s k)) with | mk kd NC =>
      obtain ⟨M, d⟩ := NC
      have h2 := hr.2 he kd M d ht
      by_cases h0 : d = 0
      · by_cases hl : acc.length = 250
        · rw [h2.2.1 h0 hl] at h; cases h
        · rw [h2.2.2 h0 hl] at h
          subst h0
          have hM := tokL_len _ _ _ _ ht
          have hM2 := hM.1
          rw [List.length_drop, Array.length_toList] at hM2
          have hsz : s.data.size = s.size := rfl
          have hM1 := hM.2.1 rfl
          obtain ⟨r, hr1, hr2⟩ := lexF_seq s f (nxt s k + M) _ l (by omega) (by omega) h
          exact ⟨_ :: r, by rw [hr1, List.append_assoc]; rfl, .more k (nxt s k) M kd r hn.1 (by omega) hM1 (tokL_kind _ _ _ ht) (blk_nxt s k) ht hr2⟩
      · rw [h2.1 h0] at h; cases h
theorem lexL_seq (s : ByteArray) (l : List Tk) (h : lexL s = .ok l) : Seq s 0 l ∧ s.size ≤ 1500 := by
  unfold lexL at h
  split at h
  · cases h
  · obtain ⟨r, hr, hs⟩ := lexF_seq s _ _ _ _ (by omega) (by omega) h
    rw [List.nil_append] at hr
    subst hr
    exact ⟨hs, by omega⟩
theorem Seq.ne {s : ByteArray} {k : Nat} {l : List Tk} (h : Seq s k l) : l ≠ [] := by cases h <;> simp
theorem lexF_len (s : ByteArray) : ∀ (f k : Nat) (acc l : List Tk), acc.length ≤ 250 → lexF s f k acc = .ok l → l.length ≤ 251
  | 0, _, acc, l, ha, h => by simp [lexF] at h; subst h; omega
  | f + 1, k, acc, l, ha, h => by
    have hr := lexF_round s f k acc
    by_cases he : nxt s k = s.size
    · rw [hr.1 he] at h; cases h; simp; omega
    · cases ht : tokL (s.data.toList.drop (nxt s k)) with | mk kd NC =>
      obtain ⟨M, d⟩ := NC
      have h2 := hr.2 he kd M d ht
      by_cases h0 : d = 0
      · by_cases hl : acc.length = 250
        · rw [h2.2.1 h0 hl] at h; cases h
        · rw [h2.2.2 h0 hl] at h; exact lexF_len s f _ _ l (by simp; omega) h
      · rw [h2.1 h0] at h; cases h
theorem lexL_len (s : ByteArray) (l : List Tk) (h : lexL s = .ok l) : l.length ≤ 251 := by
  unfold lexL at h
  split at h
  · cases h
  · exact lexF_len s _ _ _ _ (by simp) h
end Go.Proofs.YtiahojbliaaklaaGreatDoor
