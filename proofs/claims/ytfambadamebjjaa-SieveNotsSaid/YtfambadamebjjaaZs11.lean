import Derived.Test.YtfambadamebjjaaZs09
import Derived.Test.YtfambadamebjjaaZs10
set_option linter.unusedSimpArgs false
set_option linter.unusedVariables false
namespace Go.Proofs.Ytfambadamebjjaa
open Go.RowKit

theorem drop_at (s : ByteArray) (k : Nat) (h : k < s.size) : s.data.toList.drop k = s[k] :: s.data.toList.drop (k + 1) := by
 rw [List.drop_eq_getElem_cons (by rw [Array.length_toList]; exact h)]
 rfl
theorem byte_ne {c : UInt8} {n : Nat} (h : c ≠ UInt8.ofNat n) (hn : n < 256) : ¬ (c.toNat : Int) = n := fun e => h (UInt8.toNat_inj.1 (by rw [UInt8.toNat_ofNat']; omega))
end Go.Proofs.Ytfambadamebjjaa
namespace Go.Proofs.Ytfambadamebjjaa

theorem RS.ok.hd {s : RS} (h : s.ok) : ∃ r, s.rest = s.hd :: r := by
 obtain ⟨f, l, e, _⟩ := h
 cases f with
 | nil => exact ⟨[], by simp [RS.hd, e]⟩
 | cons x f => exact ⟨f ++ [l], by simp [RS.hd, e]⟩
theorem RS.ok.pos {s : RS} (h : s.ok) : 1 ≤ s.rest.length := by
 obtain ⟨r, e⟩ := h.hd
 rw [e]; simp
def RS.more (s : RS) : Prop := s.hd.kind ≠ 0 ∨ s.hd.text ≠ ⟨#[]⟩
theorem RS.ok.pass {s : RS} (h : s.ok) (hm : s.more) : s.pass.ok ∧ s.pass.rest.length + 1 = s.rest.length := by
 obtain ⟨f, l, e, hk, ht, hf⟩ := h
 cases f with
 | nil =>
  exfalso
  have : s.hd = l := by simp [RS.hd, e]
  rcases hm with hm | hm
  ·rw [this] at hm; exact hm hk
  ·rw [this] at hm; exact hm ht
 | cons x f =>
  refine ⟨⟨f, l, by simp [RS.pass, e], hk, ht, fun t h => hf t (by simp [h])⟩, by simp [RS.pass, e]⟩
theorem RS.ok.long {s : RS} (h : s.ok) (hm : s.more) : 2 ≤ s.rest.length := by
 have h1 := (h.pass hm).2
 have h2 := (h.pass hm).1.pos
 omega
theorem RS.ok.wrong {s : RS} (h : s.ok) (c : Nat) : (s.wrong c).ok ∧ (s.wrong c).rest.length = 1 := by
 obtain ⟨f, l, e, hk, ht, _⟩ := h
 refine ⟨⟨[], l, by simp [RS.wrong, e], hk, ht, by simp⟩, by simp [RS.wrong, e]⟩
def RS.next (s s' : RS) : Prop := s'.ok ∧ s'.rest.length ≤ s.rest.length
theorem RS.ok.self {s : RS} (h : s.ok) : s.next s := ⟨h, Nat.le_refl _⟩
theorem RS.next.trans {s t u : RS} (h : s.next t) (h' : t.next u) : s.next u := ⟨h'.1, Nat.le_trans h'.2 h.2⟩
theorem RS.ok.nwrong {s : RS} (h : s.ok) (c : Nat) : s.next (s.wrong c) := ⟨(h.wrong c).1, by rw [(h.wrong c).2]; exact h.pos⟩
theorem RS.ok.npass {s : RS} (h : s.ok) (hm : s.more) : s.next s.pass := ⟨(h.pass hm).1, by have := (h.pass hm).2; omega⟩
theorem RS.more_of {s : RS} {t : ByteArray} (ht : t ≠ ⟨#[]⟩) (h : s.comes t = true) : s.more := by
 right
 rw [of_decide_eq_true h]; exact ht
theorem RS.ok.nneed {s : RS} (h : s.ok) {t : ByteArray} (ht : t ≠ ⟨#[]⟩) : s.next (s.need t) := by
 unfold RS.need
 split
 ·rename_i hc; exact h.npass (RS.more_of ht hc)
 ·exact h.nwrong _
theorem RS.more_named {s : RS} (h : s.named = true) : s.more := by
 left
 rw [of_decide_eq_true h]; decide
theorem RS.ok.nname {s : RS} (h : s.ok) : s.next s.name.1 := by
 unfold RS.name
 split
 ·rename_i hc; exact h.npass (RS.more_named hc)
 ·exact h.nwrong _
theorem readC_nil : readC [] = 2 := by decide
theorem RS.more_lit {s : RS} (h : readC s.hd.text.data.toList = 0) : s.more := by
 right
 intro e
 rw [e] at h
 exact absurd (show readC [] = 0 from h) (by rw [readC_nil]; decide)
theorem RS.ok.nliteral {s : RS} (h : s.ok) : s.next s.literal.1 := by
 unfold RS.literal
 split
 ·rename_i hc; exact h.npass (RS.more_lit hc)
 ·exact h.nwrong _
theorem relT_nil : relT ⟨#[]⟩ = 0 := by decide
theorem RS.more_rel {s : RS} (h : ¬ relT s.hd.text = 0) : s.more := by
 right
 intro e
 rw [e] at h
 exact h relT_nil
theorem RS.ok.nrel {s : RS} (h : s.ok) : s.next s.rel.1 := by
 unfold RS.rel
 split
 ·exact h.self
 ·rename_i hc; exact h.npass (RS.more_rel hc)
theorem listF_next {β : Type} (most : Nat) (nx : RS → RS × β) (hn : ∀ s : RS, s.ok → s.next (nx s).1) : ∀ (f : Nat) (s : RS) (acc : List β), s.ok → s.next (listF most nx f s acc).1
 | 0, s, _, h => h.self
 | f + 1, s, acc, h => by
  rw [listF]
  split
  ·exact h.nwrong _
  ·have h1 := hn s h
   split
   ·rename_i hc
    have h2 := h1.1.npass (RS.more_of (by decide) hc)
    exact (h1.trans h2).trans (listF_next most nx hn f _ _ h2.1)
   ·exact h1
theorem listF_len {β : Type} (most : Nat) (nx : RS → RS × β) : ∀ (f : Nat) (s : RS) (acc : List β), acc.length ≤ most → (listF most nx f s acc).2.length ≤ most
 | 0, _, _, h => h
 | f + 1, s, acc, h => by
  rw [listF]
  split
  ·exact h
  ·split
   ·exact listF_len most nx f _ _ (by simp; omega)
   ·simp; omega
theorem partsF_next (word : ByteArray) (hw : word ≠ ⟨#[]⟩) (pf : RS → RS × Prd) (hn : ∀ s : RS, s.ok → s.next (pf s).1) : ∀ (f : Nat) (s : RS) (acc : List Prd), s.ok → s.next (partsF word pf f s acc).1
 | 0, s, _, h => h.self
 | f + 1, s, acc, h => by
  rw [partsF]
  split
  ·rename_i hc
   have h1 := h.npass (RS.more_of hw hc)
   have h2 := h1.trans (hn _ h1.1)
   exact h2.trans (partsF_next word hw pf hn f _ _ h2.1)
  ·exact h.self
theorem partsL_next (kind : Nat) (word : ByteArray) (hw : word ≠ ⟨#[]⟩) (pf : RS → RS × Prd) (hn : ∀ s : RS, s.ok → s.next (pf s).1) (s : RS) (h : s.ok) : s.next (partsL kind word pf s).1 :=
 (hn s h).trans (partsF_next word hw pf hn _ _ _ (hn s h).1)
theorem amongL_next (col : ByteArray) (pos : Nat) (s : RS) (h : s.ok) : s.next (amongL col pos s).1 := by
 unfold amongL
 split
 ·rename_i hc
  have h1 := h.npass (RS.more_of (by decide) hc)
  have h2 := h1.trans (h1.1.nneed (t := bOpen) (by decide))
  have h3 := h2.trans (listF_next 12 RS.literal (fun _ h => h.nliteral) 13 _ [] h2.1)
  exact h3.trans (h3.1.nneed (by decide))
 ·have h1 := h.nneed (t := bBetween) (by decide)
  have h2 := h1.trans h1.1.nliteral
  have h3 := h2.trans (h2.1.nneed (t := bAnd) (by decide))
  exact h3.trans h3.1.nliteral
theorem nameP_next (pos : Nat) (s : RS) (h : s.ok) : s.next (nameP pos s).1 := by
 have h0 := h.nname
 unfold nameP
 dsimp only
 generalize s.name.1 = u at *
 split
 ·rename_i hc
  have h1 := h0.trans (h0.1.npass (RS.more_of (by decide) hc))
  split
  ·rename_i hd
   have h2 := h1.trans (h1.1.npass (RS.more_of (by decide) hd))
   exact h2.trans (h2.1.nneed (by decide))
  ·exact h1.trans (h1.1.nneed (by decide))
 ·split
  ·rename_i hc
   have h1 := h0.trans (h0.1.npass (RS.more_of (by decide) hc))
   exact h1.trans (amongL_next _ _ _ h1.1)
  ·have h1 := h0.trans h0.1.nrel
   split
   ·exact h1.trans (amongL_next _ _ _ h1.1)
   ·split
    ·exact h1.trans h1.1.nname
    ·exact h1.trans h1.1.nliteral
theorem litP_next (pos : Nat) (s : RS) (h : s.ok) : s.next (litP pos s).1 := by
 have h0 := h.nliteral
 unfold litP
 dsimp only
 generalize s.literal.1 = u at *
 have h1 := h0.trans h0.1.nrel
 split
 ·unfold truthP
  dsimp only
  split
  ·exact h1
  ·exact h1.trans (h1.1.nwrong _)
 ·split
  ·exact h1.trans h1.1.nname
  ·exact h1.trans h1.1.nliteral
theorem oneF_next : ∀ (d : Nat) (s : RS), s.ok → s.next (oneF d s).1
 | 0, s, h => h.nwrong _
 | d + 1, s, h => by
  rw [oneF]
  split
  ·rename_i hc
   have h1 := h.npass (RS.more_of (by decide) hc)
   exact h1.trans (oneF_next d _ h1.1)
  ·split
   ·rename_i hc
    have h1 := h.npass (RS.more_of (by decide) hc)
    have h2 := h1.trans (partsL_next 9 bOr (by decide) _ (fun s h => partsL_next 8 bAnd (by decide) _ (oneF_next d) s h) _ h1.1)
    exact h2.trans (h2.1.nneed (by decide))
   ·split
    ·exact nameP_next _ _ h
    ·exact litP_next _ _ h
theorem allF_next (d : Nat) (s : RS) (h : s.ok) : s.next (allF d s).1 := partsL_next 8 bAnd (by decide) _ (oneF_next d) s h
theorem columnL_next (s : RS) (h : s.ok) : s.next (columnL s).1 := h.nname
theorem aggT_nil : aggT ⟨#[]⟩ = 0 := by decide
theorem RS.more_agg {s : RS} (h : ¬ aggT s.hd.text = 0) : s.more := by
 right
 intro e
 rw [e] at h
 exact h aggT_nil
theorem itemL_next (s : RS) (h : s.ok) : s.next (itemL s).1 := by
 unfold itemL
 split
 ·exact columnL_next s h
 ·rename_i hc
  have h1 := h.npass (RS.more_agg hc)
  have h2 := h1.trans (h1.1.nneed (t := bOpen) (by decide))
  dsimp only
  split
  ·rename_i hd
   have h3 := h2.trans (h2.1.npass (RS.more_of (by decide) hd.2))
   exact h3.trans (h3.1.nneed (by decide))
  ·have h3 := h2.trans h2.1.nname
   exact h3.trans (h3.1.nneed (by decide))
theorem itemsQ_next (s : RS) (h : s.ok) : s.next (itemsQ s).1 := by
 unfold itemsQ
 split
 ·rename_i hc; exact h.npass (RS.more_of (by decide) hc)
 ·exact listF_next 8 itemL itemL_next 9 s [] h
end Go.Proofs.Ytfambadamebjjaa
namespace Go.Proofs.Ytfambadamebjjaa

abbrev Nm := List UInt8
end Go.Proofs.Ytfambadamebjjaa
namespace Go.Proofs.Ytfambadamebjjaa
open Go.RowKit

end Go.Proofs.Ytfambadamebjjaa
