import Derived.Test.YtpklajadfbigcaaGreatDoorZt23
import Derived.Test.YtpklajadfbigcaaGreatDoorZt20
import Derived.Test.YtpklajadfbigcaaGreatDoorZt14
import Derived.Test.YtpklajadfbigcaaGreatDoorZt19
import Derived.Laws.Rows
import Derived.Test.YtpklajadfbigcaaGreatDoorZt22
import Derived.Test.YtpklajadfbigcaaGreatDoorZt18
import Derived.Test.YtpklajadfbigcaaGreatDoorZt15
set_option linter.unusedSimpArgs false
set_option linter.unusedVariables false
namespace Go.Proofs.YtpklajadfbigcaaGreatDoor
open Go.RowKit

structure TkE (b o n k : Nat) (T : List Tk) (w : World) : Prop where
  len : T.length = n
  le : n ≤ k
  max : k ≤ maxLen
  few : n ≤ 251
  form : (⟨T, Option.none⟩ : RS).ok
  tw : ∀ t ∈ T, TkW t.kind t.text.data.toList
  sz : ∀ t ∈ T, t.text.size ≤ 1510
  lt : b < w.heap.size
  cells : ∀ j u, (T.flatMap Tk.c)[j]? = some u → w.cell? ⟨b, o + j, none⟩ = some u
theorem TkE.keep {b o n k : Nat} {T : List Tk} {w w' : World} (h : TkE b o n k T w) (hg : w.grownBy w' none) : TkE b o n k T w' :=
  ⟨h.len, h.le, h.max, h.few, h.form, h.tw, h.sz, Nat.lt_of_lt_of_le h.lt hg.size, fun j u hj => hg.cell (h.cells j u hj) (by simp)⟩
def tkA (T : List Tk) (i : Nat) : Tk := T.getD i tk0
theorem tkD_at (l : List Tk) : ∀ i, i < l.length → ∀ j u, (tkA l i).c[j]? = some u → (l.flatMap Tk.c)[i * 3 + j]? = some u := by
  induction l with
  | nil => intro i hi; simp at hi
  | cons x l ih =>
    intro i hi j u hj
    rw [List.flatMap_cons]
    cases i with
    | zero =>
      have hlt : j < x.c.length := (List.getElem?_eq_some_iff.1 hj).1
      rw [List.getElem?_append_left (by omega), Nat.zero_mul, Nat.zero_add]
      exact hj
    | succ i =>
      have h3 : x.c.length = 3 := rfl
      rw [List.getElem?_append_right (by rw [h3]; omega), h3, show (i + 1) * 3 + j - 3 = i * 3 + j by omega]
      exact ih i (by simpa using hi) j u hj
theorem TkE.at {b o n k : Nat} {T : List Tk} {w : World} (h : TkE b o n k T w) {i : Nat} (hi : i < n) :
    w.cell? ⟨b, o + i * 3, none⟩ = some (.int .i64 (tkA T i).kind) ∧ w.cell? ⟨b, o + i * 3 + 1, none⟩ = some (.string (tkA T i).text) ∧ w.cell? ⟨b, o + i * 3 + 2, none⟩ = some (.int .i64 (tkA T i).pos) := by
  have hl := h.len
  refine ⟨?_, ?_, ?_⟩
  · have := h.cells _ _ (tkD_at T i (by omega) 0 _ rfl); simpa using this
  · have := h.cells _ _ (tkD_at T i (by omega) 1 _ rfl); simpa [Nat.add_assoc] using this
  · have := h.cells _ _ (tkD_at T i (by omega) 2 _ rfl); simpa [Nat.add_assoc] using this
theorem tkA_mem {T : List Tk} {i : Nat} (h : i < T.length) : tkA T i ∈ T := by
  unfold tkA
  rw [List.getD_eq_getElem?_getD, List.getElem?_eq_getElem h]
  exact List.getElem_mem h
structure SR (n : Nat) (T : List Tk) (s : RS) (i c a : Nat) : Prop where
  ok : s.ok
  lt : i < n
  len : T.length = n
  or : (s.err = none ∧ c = 0 ∧ a = 0 ∧ s.rest = T.drop i) ∨ (s.err ≠ none ∧ c ≠ 0 ∧ s.rest.length = 1)
theorem SR.hd {n i a : Nat} {T : List Tk} {s : RS} (h : SR n T s i 0 a) : s.hd = tkA T i := by
  rcases h.or with ⟨_, _, _, hr⟩ | ⟨_, h0, _⟩
  · unfold RS.hd tkA
    rw [hr]
    have := h.lt
    have := h.len
    rw [List.drop_eq_getElem_cons (by omega), List.headD_cons, List.getD_eq_getElem?_getD, List.getElem?_eq_getElem (by omega)]
    rfl
  · exact absurd rfl h0
theorem SR.bad {n i c a : Nat} {T : List Tk} {s : RS} (h : SR n T s i c a) (hc : c ≠ 0) : s.err ≠ none ∧ s.hd.kind = 0 ∧ s.hd.text = ⟨#[]⟩ := by
  rcases h.or with ⟨_, h0, _⟩ | ⟨h1, _, h2⟩
  · exact absurd h0 hc
  · obtain ⟨f, l, e, hk, ht, _⟩ := h.ok
    have hf : f = [] := by
      rw [e] at h2
      simp at h2
      exact h2
    subst hf
    have : s.hd = l := by unfold RS.hd; rw [e]; rfl
    exact ⟨h1, by rw [this, hk], by rw [this, ht]⟩
theorem SR.err0 {n i c a : Nat} {T : List Tk} {s : RS} (h : SR n T s i c a) : s.err = none ↔ c = 0 := by
  rcases h.or with ⟨h1, h2, _⟩ | ⟨h1, h2, _⟩
  · exact ⟨fun _ => h2, fun _ => h1⟩
  · exact ⟨fun e => absurd e h1, fun e => absurd e h2⟩
theorem SR.good {n i c a : Nat} {T : List Tk} {s : RS} (h : SR n T s i c a) (hm : s.more) : c = 0 ∧ a = 0 := by
  rcases h.or with ⟨_, h0, h1, _⟩ | ⟨_, hc, _⟩
  · exact ⟨h0, h1⟩
  · obtain ⟨_, h1, h2⟩ := h.bad hc
    rcases hm with hm | hm
    · exact absurd h1 hm
    · exact absurd h2 hm
theorem SR.wrong {n i c a x : Nat} {T : List Tk} {s : RS} (h : SR n T s i c a) : SR n T (s.wrong x) i (if c = 0 then x + 1 else c) (if c = 0 then (tkA T i).pos else a) := by
  refine ⟨(h.ok.wrong x).1, h.lt, h.len, .inr ⟨by simp [RS.wrong], ?_, (h.ok.wrong x).2⟩⟩
  split
  · omega
  · assumption
theorem SR.fail {n i c a x y p : Nat} {T : List Tk} {s : RS} (h : SR n T s i c a) (hy : y ≠ 0) : SR n T (s.wrong x) i y p :=
  ⟨(h.ok.wrong x).1, h.lt, h.len, .inr ⟨by simp [RS.wrong], hy, (h.ok.wrong x).2⟩⟩
theorem SR.pass {n i a : Nat} {T : List Tk} {s : RS} (h : SR n T s i 0 a) (hm : s.more) : SR n T s.pass (i + 1) 0 0 := by
  rcases h.or with ⟨h1, _, _, hr⟩ | ⟨_, h0, _⟩
  · have hl := h.ok.long hm
    have hn := h.len
    have hi := h.lt
    rw [hr, List.length_drop] at hl
    exact ⟨(h.ok.pass hm).1, by omega, hn, .inl ⟨h1, rfl, rfl, by simp [RS.pass, hr]⟩⟩
  · exact absurd rfl h0
theorem SR.begin {n : Nat} {T : List Tk} (h : (⟨T, Option.none⟩ : RS).ok) (hn : T.length = n) : SR n T ⟨T, Option.none⟩ 0 0 0 :=
  ⟨h, by have := h.pos; simp at this; omega, hn, .inl ⟨rfl, rfl, rfl, rfl⟩⟩
def keyT (t : ByteArray) : Prop := wordB t.data.toList = true ∨ t.data.toList ∈ signsL
theorem keyT_ne {t : ByteArray} (h : keyT t) : t ≠ ⟨#[]⟩ := by
  rintro rfl
  rcases h with h | h
  · revert h; decide
  · revert h; decide

theorem gq_al {w0 w : World} (h : w0.grownBy w none) (o : Obj) : w0.grownBy (w.alloc o) none := h.trans (World.grownBy_alloc w o none)
theorem alc1 (w : World) (o : Obj) : (w.alloc o).heap[w.heap.size]? = some o := heap_alloc_new w o
theorem alc2a (w : World) (o o2 : Obj) : ((w.alloc o).alloc o2).heap[w.heap.size]? = some o := ((World.grownBy_alloc (w.alloc o) o2 none).block _ (by simp) (by simp)).trans (alc1 w o)
theorem alc2b (w : World) (o o2 : Obj) : ((w.alloc o).alloc o2).heap[w.heap.size + 1]? = some o2 := by
  have := alc1 (w.alloc o) o2
  simpa using this
theorem blkD {w w' : World} (h : w.grownBy w' none) {g : Nat} {o : Obj} (hg : w.heap[g]? = some o) : w'.heap[g]? = some o :=
  (h.block g (Array.getElem?_eq_some_iff.1 hg).1 (by simp)).trans hg
theorem str_dec (s t : ByteArray) : (s.toList == t.toList) = decide (s = t) := by
  by_cases h : s = t
  · subst h; simp
  · rw [decide_eq_false h, beq_eq_false_iff_ne]
    intro e
    rw [Lib.toList_data, Lib.toList_data] at e
    exact h (bytes_ext e)
end Go.Proofs.YtpklajadfbigcaaGreatDoor
namespace Go.Proofs.YtpklajadfbigcaaGreatDoor
open Go.RowKit

end Go.Proofs.YtpklajadfbigcaaGreatDoor
namespace Go.Proofs.YtpklajadfbigcaaGreatDoor
open Go.RowKit

end Go.Proofs.YtpklajadfbigcaaGreatDoor
namespace Go.Proofs.YtpklajadfbigcaaGreatDoor
open Go.RowKit

end Go.Proofs.YtpklajadfbigcaaGreatDoor
namespace Go.Proofs.YtpklajadfbigcaaGreatDoor
open Go.RowKit

end Go.Proofs.YtpklajadfbigcaaGreatDoor
namespace Go.Proofs.YtpklajadfbigcaaGreatDoor
open Go.RowKit

end Go.Proofs.YtpklajadfbigcaaGreatDoor
namespace Go.Proofs.YtpklajadfbigcaaGreatDoor

end Go.Proofs.YtpklajadfbigcaaGreatDoor
namespace Go.Proofs.YtpklajadfbigcaaGreatDoor
open Go.RowKit
theorem SR.come {b o n k i c a : Nat} {T : List Tk} {s : RS} {w : World} {t : ByteArray} (h : TkE b o n k T w) (hs : SR n T s i c a) (ht : keyT t) (hc : s.comes t = true) : c = 0 ∧ a = 0 ∧ (tkA T i).kind ≠ 0 ∧ s.more := by
  have he : s.hd.text = t := of_decide_eq_true hc
  have hm : s.more := .inr (by rw [he]; exact keyT_ne ht)
  obtain ⟨rfl, rfl⟩ := hs.good hm
  refine ⟨rfl, rfl, ?_, hm⟩
  have hd := hs.hd
  have hw := h.tw _ (tkA_mem (T := T) (i := i) (by have := hs.lt; have := h.len; omega))
  rw [← hd, he] at hw
  rw [← hd]
  rcases ht with e | e
  · rw [hw.word e]; decide
  · rw [hw.sign e]; decide
end Go.Proofs.YtpklajadfbigcaaGreatDoor
