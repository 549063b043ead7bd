/- The tokens of a text that is put together of tokens and blanks. -/
import Derived.Test.YtiahojbliaaklaaDoorLxBm
namespace Go.Proofs.YtiahojbliaaklaaDoor
open Go.RowKit

theorem bytes_extV {s t : ByteArray} (h : s.data.toList = t.data.toList) : s = t := by
  apply ByteArray.ext
  exact Array.toList_inj.1 h
theorem tok_first (c : UInt8) (r : List UInt8) (kd M : Nat) (h : tokL (c :: r) = (kd, M, 0)) : blankB c = false := by
  cases hb : blankB c with
  | false => rfl
  | true =>
    exfalso
    have h4 : c = 9 ∨ c = 10 ∨ c = 13 ∨ c = 32 := by
      unfold blankB at hb
      simp at hb
      rcases hb with ((h | h) | h) | h
      · exact .inl (UInt8.toNat_inj.1 h)
      · exact .inr (.inl (UInt8.toNat_inj.1 h))
      · exact .inr (.inr (.inl (UInt8.toNat_inj.1 h)))
      · exact .inr (.inr (.inr (UInt8.toNat_inj.1 h)))
    have hp : ∀ x y : UInt8, x ≠ c → Lib.hasPrefix (c :: r) [x, y] = false := fun x y hx => by simp [Lib.hasPrefix, List.isPrefixOf, hx]
    have key : ∀ c : UInt8, (c = 9 ∨ c = 10 ∨ c = 13 ∨ c = 32) → (c.toNat = 39) = False ∧ (c.toNat = 45) = False ∧ digB c = false ∧ partB c = false ∧ ([61, 60, 62, 42, 44, 40, 41] : List UInt8).contains c = false ∧ (60 : UInt8) ≠ c ∧ (62 : UInt8) ≠ c := by
      rintro c (rfl | rfl | rfl | rfl) <;> decide
    obtain ⟨t1, t2, t3, t4, t5, t6, t7⟩ := key c h4
    have hs : signN (c :: r) = 0 := by
      unfold signN
      simp only [hp 60 62 t6, hp 60 61 t6, hp 62 61 t7, t5, Bool.or_self, Bool.false_eq_true, if_false]
    unfold tokL at h
    simp only [t1, t2, t3, t4, hs, Bool.false_eq_true, if_false, if_true, Prod.mk.injEq] at h
    omega
theorem run_blanks : ∀ (bl : List UInt8) (c : UInt8) (rest : List UInt8), (∀ b ∈ bl, blankB b = true) → blankB c = false → runL blankB (bl ++ c :: rest) = bl.length
  | [], c, rest, _, hc => by simp [runL, hc]
  | b :: bl, c, rest, h, hc => by
    rw [List.cons_append, runL, h b (by simp)]
    simp [run_blanks bl c rest (fun x hx => h x (by simp [hx])) hc]
theorem run_blanks_all : ∀ (bl : List UInt8), (∀ b ∈ bl, blankB b = true) → runL blankB bl = bl.length
  | [], _ => rfl
  | b :: bl, h => by
    rw [runL, h b (by simp)]
    simp [run_blanks_all bl (fun x hx => h x (by simp [hx]))]
/-- A token, and the blanks behind it (one more stands ahead of these). -/
structure Gap (x : Tk × List UInt8) : Prop where
  tok : ∀ rest, tokL (x.1.text.data.toList ++ 32 :: rest) = (x.1.kind, x.1.text.size, 0)
  one : 1 ≤ x.1.text.size
  bl : ∀ b ∈ x.2, blankB b = true
def flatP (ps : List (Tk × List UInt8)) : List UInt8 := ps.flatMap fun x => x.1.text.data.toList ++ 32 :: x.2
def kt (t : Tk) : Nat × ByteArray := (t.kind, t.text)
theorem lex_gaps (T : ByteArray) : ∀ (ps : List (Tk × List UInt8)) (f p : Nat) (acc : List Tk) (bl : List UInt8), T.data.toList.drop p = bl ++ flatP ps → (∀ b ∈ bl, blankB b = true) → (∀ x ∈ ps, Gap x) →
    acc.length + ps.length ≤ 250 → T.size - p < f → p ≤ T.size → ∃ r, lexF T f p acc = .ok (acc ++ r) ∧ r.map kt = ps.map (fun x => kt x.1) ++ [(0, ⟨#[]⟩)]
  | _, 0, _, _, _, _, _, _, _, hf, _ => by omega
  | [], f + 1, p, acc, bl, hd, hb, _, _, _, hp => by
    have hz : T.data.toList.length = T.size := by rw [Array.length_toList]; rfl
    have hl := congrArg List.length hd
    rw [List.length_drop, hz] at hl
    simp [flatP] at hl
    have hn : nxt T p = T.size := by
      unfold nxt
      rw [hd, show flatP [] = [] from rfl, List.append_nil, run_blanks_all bl hb]
      omega
    exact ⟨_, (lexF_round T f p acc).1 hn, rfl⟩
  | (t, g) :: ps, f + 1, p, acc, bl, hd, hb, hg, hlen, hf, hp => by
    have hz : T.data.toList.length = T.size := by rw [Array.length_toList]; rfl
    have hx := hg (t, g) (by simp)
    have h1 := hx.one
    have hfl : flatP ((t, g) :: ps) = t.text.data.toList ++ 32 :: (g ++ flatP ps) := by simp [flatP]
    rw [hfl] at hd
    obtain ⟨c, r, hc⟩ : ∃ c r, t.text.data.toList = c :: r := by
      cases h : t.text.data.toList with
      | nil => have := size_list h; rw [List.length_nil] at this; simp only at h1; omega
      | cons c r => exact ⟨c, r, rfl⟩
    have htk := hx.tok (g ++ flatP ps)
    simp only at htk h1
    have hcb : blankB c = false := by rw [hc] at htk; exact tok_first c _ _ _ htk
    have hl := congrArg List.length hd
    have hts : t.text.data.toList.length = t.text.size := by rw [Array.length_toList]; rfl
    rw [List.length_drop, hz, List.length_append, List.length_append, hts, List.length_cons] at hl
    have hn : nxt T p = p + bl.length := by
      unfold nxt
      rw [hd, hc, List.cons_append, run_blanks bl c _ hb hcb]
    have hdn : T.data.toList.drop (p + bl.length) = t.text.data.toList ++ 32 :: (g ++ flatP ps) := by
      rw [← List.drop_drop, hd, List.drop_left]
    have hr := (lexF_round T f p acc).2 (by rw [hn]; omega) t.kind t.text.size 0 (by rw [hn, hdn]; exact htk)
    rw [hr.2.2 rfl (by simp at hlen; omega), hn]
    have htx : T.extract (p + bl.length) (p + bl.length + t.text.size) = t.text := by
      apply bytes_extV
      have e : (T.extract (p + bl.length) (p + bl.length + t.text.size)).data.toList = (T.data.toList.drop (p + bl.length)).take t.text.size := by
        simp [Nat.add_sub_cancel_left]
      rw [e, hdn, ← hts, List.take_left]
    rw [htx]
    have hd2 : T.data.toList.drop (p + bl.length + t.text.size) = (32 :: g) ++ flatP ps := by
      rw [← List.drop_drop, hdn, ← hts, List.drop_left]; rfl
    obtain ⟨r2, hr2, hm2⟩ := lex_gaps T ps f (p + bl.length + t.text.size) (acc ++ [⟨t.kind, t.text, p + bl.length⟩]) (32 :: g) hd2 (fun b hb2 => by
      rcases List.mem_cons.1 hb2 with rfl | h
      · decide
      · exact hx.bl b h) (fun x h => hg x (by simp [h])) (by simp at hlen ⊢; omega) (by omega) (by omega)
    exact ⟨⟨t.kind, t.text, p + bl.length⟩ :: r2, by rw [hr2, List.append_assoc]; rfl, by rw [List.map_cons, hm2]; rfl⟩
/-- The tokens of a text: those ahead of the last one. -/
theorem Seq.gaps {s : ByteArray} {k : Nat} {l : List Tk} (h : Seq s k l) : ∃ ts, l = ts ++ [⟨0, ⟨#[]⟩, s.size⟩] ∧ ∀ t ∈ ts, ∀ g : List UInt8, (∀ b ∈ g, blankB b = true) → Gap (t, g) := by
  induction h with
  | last k hk hb => exact ⟨[], rfl, fun t h => by cases h⟩
  | more k q M kd r h1 h2 h3 hk hb ht hr ih =>
    obtain ⟨ts, hts, hg⟩ := ih
    refine ⟨_ :: ts, by rw [hts]; rfl, fun t hm g hgb => ?_⟩
    rcases List.mem_cons.1 hm with rfl | hm
    · have hz : (s.extract q (q + M)).size = M := by rw [ByteArray.size_extract]; omega
      have e : (s.extract q (q + M)).data.toList = (s.data.toList.drop q).take M := by
        simp [Nat.add_sub_cancel_left]
      exact ⟨fun rest => by simp only [e, hz]; exact tok_stop _ _ _ ht rest, by simp only [hz]; exact h3, hgb⟩
    · exact hg t hm g hgb
end Go.Proofs.YtiahojbliaaklaaDoor
