import Derived.Test.YtfambadamebjjaaZs22
import Derived.Test.YtfambadamebjjaaZs09
import Derived.Test.YtfambadamebjjaaZs13
import Derived.Test.YtfambadamebjjaaZs23
import Derived.Test.YtfambadamebjjaaZs20
import Derived.Test.YtfambadamebjjaaZs19
import Derived.Laws.Rows
set_option linter.unusedSimpArgs false
set_option linter.unusedVariables false
namespace Go.Proofs.Ytfambadamebjjaa
open Go.RowKit

theorem hexd_ne {n : Nat} (h : n < 16) : hexd n ≠ 39 := by
 have : ∀ i : Fin 16, hexd i.val ≠ 39 := by decide
 exact this ⟨n, h⟩
end Go.Proofs.Ytfambadamebjjaa
namespace Go.Proofs.Ytfambadamebjjaa

structure Qry.wf (q : Qry) : Prop where
 items : ∀ x ∈ q.items, x.wf
 all : q.all = true → q.items = []
 cond : q.cond.wf
 group : ∀ x ∈ q.group, x.agg = 0 ∧ x.col ≠ ⟨#[]⟩
 order : ∀ x ∈ q.order, x.item.wf
def b8 (t : ByteArray) : Nm := t.data.toList
theorem b8_ne {t : ByteArray} : b8 t = [] ↔ t = ⟨#[]⟩ := by
 constructor
 ·intro h
  cases t with
  | mk d => cases d with
   | mk l =>
    have h2 : l = [] := h
    rw [h2]
 ·rintro rfl; rfl
mutual
def Prd.alls : Prd → List Prd
 | .mk k c r v o l ks p => Prd.allsL ks ++ [.mk k c r v o l ks p]
def Prd.allsL : List Prd → List Prd
 | [] => []
 | x :: r => x.alls ++ Prd.allsL r
end
mutual
def Prd.seqN : Prd → List Nm
 | .mk _ c _ _ o _ ks _ => b8 c :: b8 o :: Prd.seqNs ks
def Prd.seqNs : List Prd → List Nm
 | [] => []
 | x :: r => x.seqN ++ Prd.seqNs r
end
mutual
theorem Prd.nms_mem : ∀ p : Prd, p.wf → ∀ z, z ≠ [] → ((∃ x ∈ p.alls, ∃ c ∈ x.nms, b8 c = z) ↔ z ∈ p.seqN)
 | .mk k c r v o ls ks pos, h, z, hz => by
  have ih := Prd.nmsL_mem ks h.2 z hz
  rw [Prd.alls, Prd.seqN]
  have own : (∃ d ∈ Prd.nms (.mk k c r v o ls ks pos), b8 d = z) ↔ z = b8 c ∨ z = b8 o := by
   obtain ⟨h1, h2, h3⟩ := h.1
   have hn : Prd.nms (.mk k c r v o ls ks pos) = if k = 3 ∨ k = 5 ∨ k = 6 ∨ k = 7 then [c] else if k = 4 then [c, o] else [] := rfl
   rw [hn]
   by_cases k1 : k = 3 ∨ k = 5 ∨ k = 6 ∨ k = 7
   ·rw [if_pos k1]
    have := (h1 k1).2
    constructor
    ·rintro ⟨d, hd, rfl⟩
     rw [List.mem_singleton] at hd
     exact .inl (by rw [hd])
    ·rintro (e | e)
     ·exact ⟨c, by simp, e.symm⟩
     ·rw [this] at e; exact absurd e hz
   ·rw [if_neg k1]
    by_cases k2 : k = 4
    ·rw [if_pos k2]
     constructor
     ·rintro ⟨d, hd, rfl⟩
      rw [List.mem_cons, List.mem_singleton] at hd
      rcases hd with rfl | rfl
      ·exact .inl rfl
      ·exact .inr rfl
     ·rintro (e | e)
      ·exact ⟨c, by simp, e.symm⟩
      ·exact ⟨o, by simp, e.symm⟩
    ·rw [if_neg k2]
     have h4 := h3 (by omega)
     constructor
     ·rintro ⟨d, hd, _⟩; cases hd
     ·rintro (e | e)
      ·rw [h4.1] at e; exact absurd e hz
      ·rw [h4.2] at e; exact absurd e hz
  rw [List.mem_cons, List.mem_cons]
  constructor
  ·rintro ⟨x, hx, hc⟩
   rcases List.mem_append.1 hx with e | e
   ·exact .inr (.inr (ih.1 ⟨x, e, hc⟩))
   ·obtain rfl := List.mem_singleton.1 e
    rcases own.1 hc with e | e
    ·exact .inl e
    ·exact .inr (.inl e)
  ·rintro (e | e | e)
   ·exact ⟨_, List.mem_append.2 (.inr (List.mem_singleton.2 rfl)), own.2 (.inl e)⟩
   ·exact ⟨_, List.mem_append.2 (.inr (List.mem_singleton.2 rfl)), own.2 (.inr e)⟩
   ·obtain ⟨x, hx, hc⟩ := ih.2 e
    exact ⟨x, List.mem_append.2 (.inl hx), hc⟩
theorem Prd.nmsL_mem : ∀ ks : List Prd, Prd.wfs ks → ∀ z, z ≠ [] → ((∃ x ∈ Prd.allsL ks, ∃ c ∈ x.nms, b8 c = z) ↔ z ∈ Prd.seqNs ks)
 | [], _, z, _ => by simp [Prd.allsL, Prd.seqNs]
 | x :: r, h, z, hz => by
  have i1 := Prd.nms_mem x h.1 z hz
  have i2 := Prd.nmsL_mem r h.2 z hz
  rw [Prd.allsL, Prd.seqNs, List.mem_append, ← i1, ← i2]
  constructor
  ·rintro ⟨y, hy, hc⟩
   rcases List.mem_append.1 hy with e | e
   ·exact .inl ⟨y, e, hc⟩
   ·exact .inr ⟨y, e, hc⟩
  ·rintro (⟨y, e, hc⟩ | ⟨y, e, hc⟩)
   ·exact ⟨y, List.mem_append.2 (.inl e), hc⟩
   ·exact ⟨y, List.mem_append.2 (.inr e), hc⟩
end
def Itm.nms (x : Itm) : List ByteArray := if x.agg = 1 then [] else [x.col]
def Qry.listN (q : Qry) : List ByteArray :=
 ((if q.all = true then [] else q.items) ++ q.order.map Kyo.item ++ q.group).flatMap Itm.nms ++ q.cond.alls.flatMap Prd.nms
def Qry.seqN (q : Qry) : List Nm := q.cond.seqN ++ (q.items ++ q.group ++ q.order.map Kyo.item).map fun x => b8 x.col
theorem Itm.wf.nms {x : Itm} (h : x.wf) (z : Nm) (hz : z ≠ []) : (∃ c ∈ x.nms, b8 c = z) ↔ b8 x.col = z := by
 unfold Itm.nms
 by_cases hx : x.agg = 1
 ·rw [if_pos hx, h.2 hx]
  constructor
  ·rintro ⟨c, hc, _⟩; cases hc
  ·intro e; exact absurd e.symm hz
 ·rw [if_neg hx]; simp
theorem Qry.wf.named {q : Qry} (h : q.wf) (z : Nm) (hz : z ≠ []) : z ∈ q.listN.map b8 ↔ z ∈ q.seqN := by
 have hi : (if q.all = true then [] else q.items) = q.items := by
  split
  ·rename_i ha; exact (h.all ha).symm
  ·rfl
 have hg : ∀ x ∈ q.group, x.wf := fun x hx => ⟨fun _ => (h.group x hx).2, fun e => by rw [(h.group x hx).1] at e; cases e⟩
 have ho : ∀ x ∈ q.order.map Kyo.item, x.wf := fun x hx => by
  obtain ⟨k, hk, rfl⟩ := List.mem_map.1 hx
  exact h.order k hk
 have hc := Prd.nms_mem q.cond h.cond z hz
 rw [Qry.seqN, List.mem_append, ← hc, Qry.listN, hi, List.map_append, List.mem_append]
 constructor
 ·rintro (e | e)
  ·obtain ⟨c, hcm, e2⟩ := List.mem_map.1 e
   obtain ⟨x, hx, hxc⟩ := List.mem_flatMap.1 hcm
   have hw : x.wf := by
    rcases List.mem_append.1 hx with e | e
    ·rcases List.mem_append.1 e with e | e
     ·exact h.items x e
     ·exact ho x e
    ·exact hg x e
   refine .inr (List.mem_map.2 ⟨x, ?_, (hw.nms z hz).1 ⟨c, hxc, e2⟩⟩)
   rw [List.mem_append, List.mem_append] at hx ⊢
   rcases hx with (e | e) | e
   ·exact .inl (.inl e)
   ·exact .inr e
   ·exact .inl (.inr e)
  ·obtain ⟨c, hcm, e2⟩ := List.mem_map.1 e
   obtain ⟨x, hx, hxc⟩ := List.mem_flatMap.1 hcm
   exact .inl ⟨x, hx, c, hxc, e2⟩
 ·rintro (⟨x, hx, c, hxc, e2⟩ | e)
  ·exact .inr (List.mem_map.2 ⟨c, List.mem_flatMap.2 ⟨x, hx, hxc⟩, e2⟩)
  ·obtain ⟨x, hx, e2⟩ := List.mem_map.1 e
   have hw : x.wf := by
    rcases List.mem_append.1 hx with e | e
    ·rcases List.mem_append.1 e with e | e
     ·exact h.items x e
     ·exact hg x e
    ·exact ho x e
   obtain ⟨c, hxc, e3⟩ := (hw.nms z hz).2 e2
   refine .inl (List.mem_map.2 ⟨c, List.mem_flatMap.2 ⟨x, ?_, hxc⟩, e3⟩)
   rw [List.mem_append, List.mem_append] at hx ⊢
   rcases hx with (e | e) | e
   ·exact .inl (.inl e)
   ·exact .inr e
   ·exact .inl (.inr e)
theorem Prd.own_ne {x : Prd} (h : x.own) : ∀ c ∈ x.nms, c ≠ ⟨#[]⟩ := by
 cases x with
 | mk k c r v o l ks p =>
  obtain ⟨h1, h2, _⟩ := h
  have hn : Prd.nms (.mk k c r v o l ks p) = if k = 3 ∨ k = 5 ∨ k = 6 ∨ k = 7 then [c] else if k = 4 then [c, o] else [] := rfl
  rw [hn]
  intro d hd
  by_cases k1 : k = 3 ∨ k = 5 ∨ k = 6 ∨ k = 7
  ·rw [if_pos k1] at hd
   obtain rfl := List.mem_singleton.1 hd
   exact (h1 k1).1
  ·rw [if_neg k1] at hd
   by_cases k2 : k = 4
   ·rw [if_pos k2] at hd
    rw [List.mem_cons, List.mem_singleton] at hd
    rcases hd with rfl | rfl
    ·exact (h2 k2).1
    ·exact (h2 k2).2
   ·rw [if_neg k2] at hd; cases hd
mutual
theorem Prd.alls_own : ∀ p : Prd, p.wf → ∀ x ∈ p.alls, x.own
 | .mk k c r v o l ks p, h, x, hx => by
  rw [Prd.alls] at hx
  rcases List.mem_append.1 hx with e | e
  ·exact Prd.allsL_own ks h.2 x e
  ·obtain rfl := List.mem_singleton.1 e
   exact h.1
theorem Prd.allsL_own : ∀ ks : List Prd, Prd.wfs ks → ∀ x ∈ Prd.allsL ks, x.own
 | [], _, x, hx => by cases hx
 | y :: r, h, x, hx => by
  rw [Prd.allsL] at hx
  rcases List.mem_append.1 hx with e | e
  ·exact Prd.alls_own y h.1 x e
  ·exact Prd.allsL_own r h.2 x e
end
theorem Qry.wf.some {q : Qry} (h : q.wf) : ([] : Nm) ∉ q.listN.map b8 := by
 intro e
 obtain ⟨c, hc, e2⟩ := List.mem_map.1 e
 have e3 := b8_ne.1 e2
 unfold Qry.listN at hc
 rcases List.mem_append.1 hc with hc | hc
 ·obtain ⟨x, hx, hxc⟩ := List.mem_flatMap.1 hc
  have hw : x.wf := by
   rcases List.mem_append.1 hx with e | e
   ·rcases List.mem_append.1 e with e | e
    ·refine h.items x ?_
     split at e
     ·cases e
     ·exact e
    ·obtain ⟨k, hk, rfl⟩ := List.mem_map.1 e
     exact h.order k hk
   ·exact ⟨fun _ => (h.group x e).2, fun e2 => by rw [(h.group x e).1] at e2; cases e2⟩
  unfold Itm.nms at hxc
  split at hxc
  ·cases hxc
  ·rename_i ha
   obtain rfl := List.mem_singleton.1 hxc
   exact hw.1 ha e3
 ·obtain ⟨x, hx, hxc⟩ := List.mem_flatMap.1 hc
  exact Prd.own_ne (Prd.alls_own _ h.cond x hx) c hxc e3
end Go.Proofs.Ytfambadamebjjaa
namespace Go.Proofs.Ytfambadamebjjaa
open Go.RowKit

structure TkE (b o n k : Nat) (T : List Tk) (w : World) : Prop where
 len : T.length = n
 le : n ≤ k
 max : k ≤ maxLen
 few : n ≤ 251
 form : (⟨T, Option.none⟩ : RS).ok
 tw : ∀ t ∈ T, TkW t.kind t.text.data.toList
 sz : ∀ t ∈ T, t.text.size ≤ 1510
 lt : b < w.heap.size
 cells : ∀ j u, (T.flatMap Tk.c)[j]? = some u → w.cell? ⟨b, o + j, none⟩ = some u
theorem TkE.keep {b o n k : Nat} {T : List Tk} {w w' : World} (h : TkE b o n k T w) (hg : w.grownBy w' none) : TkE b o n k T w' :=
 ⟨h.len, h.le, h.max, h.few, h.form, h.tw, h.sz, Nat.lt_of_lt_of_le h.lt hg.size, fun j u hj => hg.cell (h.cells j u hj) (by simp)⟩
def tkA (T : List Tk) (i : Nat) : Tk := T.getD i tk0
theorem tkD_at (l : List Tk) : ∀ i, i < l.length → ∀ j u, (tkA l i).c[j]? = some u → (l.flatMap Tk.c)[i * 3 + j]? = some u := by
 induction l with
 | nil => intro i hi; simp at hi
 | cons x l ih =>
  intro i hi j u hj
  rw [List.flatMap_cons]
  cases i with
  | zero =>
   have hlt : j < x.c.length := (List.getElem?_eq_some_iff.1 hj).1
   rw [List.getElem?_append_left (by omega), Nat.zero_mul, Nat.zero_add]
   exact hj
  | succ i =>
   have h3 : x.c.length = 3 := rfl
   rw [List.getElem?_append_right (by rw [h3]; omega), h3, show (i + 1) * 3 + j - 3 = i * 3 + j by omega]
   exact ih i (by simpa using hi) j u hj
theorem TkE.at {b o n k : Nat} {T : List Tk} {w : World} (h : TkE b o n k T w) {i : Nat} (hi : i < n) :
  w.cell? ⟨b, o + i * 3, none⟩ = some (.int .i64 (tkA T i).kind) ∧ w.cell? ⟨b, o + i * 3 + 1, none⟩ = some (.string (tkA T i).text) ∧ w.cell? ⟨b, o + i * 3 + 2, none⟩ = some (.int .i64 (tkA T i).pos) := by
 have hl := h.len
 refine ⟨?_, ?_, ?_⟩
 ·have := h.cells _ _ (tkD_at T i (by omega) 0 _ rfl); simpa using this
 ·have := h.cells _ _ (tkD_at T i (by omega) 1 _ rfl); simpa [Nat.add_assoc] using this
 ·have := h.cells _ _ (tkD_at T i (by omega) 2 _ rfl); simpa [Nat.add_assoc] using this
theorem tkA_mem {T : List Tk} {i : Nat} (h : i < T.length) : tkA T i ∈ T := by
 unfold tkA
 rw [List.getD_eq_getElem?_getD, List.getElem?_eq_getElem h]
 exact List.getElem_mem h
structure SR (n : Nat) (T : List Tk) (s : RS) (i c a : Nat) : Prop where
 ok : s.ok
 lt : i < n
 len : T.length = n
 or : (s.err = none ∧ c = 0 ∧ a = 0 ∧ s.rest = T.drop i) ∨ (s.err ≠ none ∧ c ≠ 0 ∧ s.rest.length = 1)
theorem SR.hd {n i a : Nat} {T : List Tk} {s : RS} (h : SR n T s i 0 a) : s.hd = tkA T i := by
 rcases h.or with ⟨_, _, _, hr⟩ | ⟨_, h0, _⟩
 ·unfold RS.hd tkA
  rw [hr]
  have := h.lt
  have := h.len
  rw [List.drop_eq_getElem_cons (by omega), List.headD_cons, List.getD_eq_getElem?_getD, List.getElem?_eq_getElem (by omega)]
  rfl
 ·exact absurd rfl h0
theorem SR.bad {n i c a : Nat} {T : List Tk} {s : RS} (h : SR n T s i c a) (hc : c ≠ 0) : s.err ≠ none ∧ s.hd.kind = 0 ∧ s.hd.text = ⟨#[]⟩ := by
 rcases h.or with ⟨_, h0, _⟩ | ⟨h1, _, h2⟩
 ·exact absurd h0 hc
 ·obtain ⟨f, l, e, hk, ht, _⟩ := h.ok
  have hf : f = [] := by
   rw [e] at h2
   simp at h2
   exact h2
  subst hf
  have : s.hd = l := by unfold RS.hd; rw [e]; rfl
  exact ⟨h1, by rw [this, hk], by rw [this, ht]⟩
theorem SR.err0 {n i c a : Nat} {T : List Tk} {s : RS} (h : SR n T s i c a) : s.err = none ↔ c = 0 := by
 rcases h.or with ⟨h1, h2, _⟩ | ⟨h1, h2, _⟩
 ·exact ⟨fun _ => h2, fun _ => h1⟩
 ·exact ⟨fun e => absurd e h1, fun e => absurd e h2⟩
theorem SR.good {n i c a : Nat} {T : List Tk} {s : RS} (h : SR n T s i c a) (hm : s.more) : c = 0 ∧ a = 0 := by
 rcases h.or with ⟨_, h0, h1, _⟩ | ⟨_, hc, _⟩
 ·exact ⟨h0, h1⟩
 ·obtain ⟨_, h1, h2⟩ := h.bad hc
  rcases hm with hm | hm
  ·exact absurd h1 hm
  ·exact absurd h2 hm
theorem SR.wrong {n i c a x : Nat} {T : List Tk} {s : RS} (h : SR n T s i c a) : SR n T (s.wrong x) i (if c = 0 then x + 1 else c) (if c = 0 then (tkA T i).pos else a) := by
 refine ⟨(h.ok.wrong x).1, h.lt, h.len, .inr ⟨by simp [RS.wrong], ?_, (h.ok.wrong x).2⟩⟩
 split
 ·omega
 ·assumption
theorem SR.fail {n i c a x y p : Nat} {T : List Tk} {s : RS} (h : SR n T s i c a) (hy : y ≠ 0) : SR n T (s.wrong x) i y p :=
 ⟨(h.ok.wrong x).1, h.lt, h.len, .inr ⟨by simp [RS.wrong], hy, (h.ok.wrong x).2⟩⟩
theorem SR.pass {n i a : Nat} {T : List Tk} {s : RS} (h : SR n T s i 0 a) (hm : s.more) : SR n T s.pass (i + 1) 0 0 := by
 rcases h.or with ⟨h1, _, _, hr⟩ | ⟨_, h0, _⟩
 ·have hl := h.ok.long hm
  have hn := h.len
  have hi := h.lt
  rw [hr, List.length_drop] at hl
  exact ⟨(h.ok.pass hm).1, by omega, hn, .inl ⟨h1, rfl, rfl, by simp [RS.pass, hr]⟩⟩
 ·exact absurd rfl h0
theorem SR.begin {n : Nat} {T : List Tk} (h : (⟨T, Option.none⟩ : RS).ok) (hn : T.length = n) : SR n T ⟨T, Option.none⟩ 0 0 0 :=
 ⟨h, by have := h.pos; simp at this; omega, hn, .inl ⟨rfl, rfl, rfl, rfl⟩⟩
def keyT (t : ByteArray) : Prop := wordB t.data.toList = true ∨ t.data.toList ∈ signsL
theorem keyT_ne {t : ByteArray} (h : keyT t) : t ≠ ⟨#[]⟩ := by
 rintro rfl
 rcases h with h | h
 ·revert h; decide
 ·revert h; decide

theorem gq_al {w0 w : World} (h : w0.grownBy w none) (o : Obj) : w0.grownBy (w.alloc o) none := h.trans (World.grownBy_alloc w o none)
theorem gq_cellR (w : World) (g i : Nat) (u : Value) : w.grownBy (w.setCell ⟨g, i, none⟩ u) (some g) := ⟨rfl, rfl, rfl, by simp [World.setCell], fun _ _ hne => Below.heap_setCell _ _ _ _ (fun e => hne (by rw [e]))⟩
theorem gq_set {w0 w : World} (h : w0.grownBy w none) {g : Nat} (i : Nat) (u : Value) (hb : w0.heap.size ≤ g) : w0.grownBy (w.setCell ⟨g, i, none⟩ u) none :=
 grown_thenX h (gq_cellR w g i u) (fun j hj => by cases hj; exact hb)
theorem gq_dr {w0 w : World} (h : w0.grownBy w none) : w0.grownBy w.drew none := ⟨h.os, h.tape, h.output, h.size, h.block⟩

theorem alc1 (w : World) (o : Obj) : (w.alloc o).heap[w.heap.size]? = some o := heap_alloc_new w o
theorem alc2a (w : World) (o o2 : Obj) : ((w.alloc o).alloc o2).heap[w.heap.size]? = some o := ((World.grownBy_alloc (w.alloc o) o2 none).block _ (by simp) (by simp)).trans (alc1 w o)
theorem alc2b (w : World) (o o2 : Obj) : ((w.alloc o).alloc o2).heap[w.heap.size + 1]? = some o2 := by
 have := alc1 (w.alloc o) o2
 simpa using this
theorem boxD5 {w : World} {g : Nat} {v0 v1 v2 v3 v4 : Value} {T : TypeId} (h : w.heap[g]? = some (.cells #[v0, v1, v2, v3, v4] T (0, 0))) : (w.cell? ⟨g, 0, none⟩ = some v0 ∧ w.cell? ⟨g, 1, none⟩ = some v1 ∧ w.cell? ⟨g, 2, none⟩ = some v2 ∧ w.cell? ⟨g, 3, none⟩ = some v3 ∧ w.cell? ⟨g, 4, none⟩ = some v4) ∧ w.frozen? ⟨g, 0, none⟩ = false ∧ w.frozen? ⟨g, 1, none⟩ = false ∧ w.frozen? ⟨g, 2, none⟩ = false ∧ w.frozen? ⟨g, 3, none⟩ = false ∧ w.frozen? ⟨g, 4, none⟩ = false := by
 have c0 := cell_of_row _ _ 0 _ _ _ h
 have c1 := cell_of_row _ _ 1 _ _ _ h
 have c2 := cell_of_row _ _ 2 _ _ _ h
 have c3 := cell_of_row _ _ 3 _ _ _ h
 have c4 := cell_of_row _ _ 4 _ _ _ h
 simp at c0 c1 c2 c3 c4
 exact ⟨⟨c0, c1, c2, c3, c4⟩, frozen_of_row _ _ 0 _ _ h, frozen_of_row _ _ 1 _ _ h, frozen_of_row _ _ 2 _ _ h, frozen_of_row _ _ 3 _ _ h, frozen_of_row _ _ 4 _ _ h⟩
theorem blk_ne {w : World} {g g' i : Nat} {u : Value} {x : Option Obj} (h : w.heap[g]? = x) (hne : g ≠ g') : (w.setCell ⟨g', i, none⟩ u).heap[g]? = x := (Below.heap_setCell _ _ _ _ hne).trans h
theorem setD5 {w : World} {b : Nat} {v0 v1 v2 v3 v4 u0 u1 u2 u3 u4 : Value} {T : TypeId} (h : w.heap[b]? = some (.cells #[v0, v1, v2, v3, v4] T (0, 0))) : (((((w.setCell ⟨b, 0, none⟩ u0).setCell ⟨b, 1, none⟩ u1).setCell ⟨b, 2, none⟩ u2).setCell ⟨b, 3, none⟩ u3).setCell ⟨b, 4, none⟩ u4).heap[b]? = some (.cells #[u0, u1, u2, u3, u4] T (0, 0)) := by
 have h0 := heap_setCell_same _ _ 0 _ _ u0 h
 have h1 := heap_setCell_same _ _ 1 _ _ u1 h0
 have h2 := heap_setCell_same _ _ 2 _ _ u2 h1
 have h3 := heap_setCell_same _ _ 3 _ _ u3 h2
 have h4 := heap_setCell_same _ _ 4 _ _ u4 h3
 simpa using h4
theorem st_size : (Try.prog.info? 81).map (·.size) = some 5 := by kernel_rfl
theorem res_ct {fn : Func} {p u : Tmp} (h : fn.results = #[.cell p 81, .tmp u]) (tmps : Array Value) (w : World) (g : Nat) (cs : Array Value) (hp : tmps.getD p undef = .pointer (some ⟨g, 0, none⟩)) (hg : w.heap[g]? = some (.cells cs 81 (0, 0))) (hs : cs.size = 5) :
  (results fn tmps).run Try.prog w = .ok (.tuple #[.agg cs, tmps.getD u undef]) w := by
 have hp' : tmps[p]?.getD undef = .pointer (some ⟨g, 0, none⟩) := by simpa using hp
 simp [results, h, hp', asAddr, run_loadVar_row w g 81 81 cs (0, 0) _ hg Try.underlying81 rfl (by rw [hs]; exact st_size)]
theorem vl_infoD : (Try.prog.info? 31).map (·.size) = some 3 := by kernel_rfl
theorem res_cv {fn : Func} {p q : Tmp} (h : fn.results = #[.cell p 81, .cell q 31]) (tmps : Array Value) (w : World) (g g' : Nat) (cs cs' : Array Value) (hp : tmps.getD p undef = .pointer (some ⟨g, 0, none⟩)) (hq : tmps.getD q undef = .pointer (some ⟨g', 0, none⟩)) (hg : w.heap[g]? = some (.cells cs 81 (0, 0))) (hg' : w.heap[g']? = some (.cells cs' 31 (0, 0))) (hs : cs.size = 5) (hs' : cs'.size = 3) :
  (results fn tmps).run Try.prog w = .ok (.tuple #[.agg cs, .agg cs']) w := by
 have hp' : tmps[p]?.getD undef = .pointer (some ⟨g, 0, none⟩) := by simpa using hp
 have hq' : tmps[q]?.getD undef = .pointer (some ⟨g', 0, none⟩) := by simpa using hq
 simp [results, h, hp', hq', asAddr, run_loadVar_row w g 81 81 cs (0, 0) _ hg Try.underlying81 rfl (by rw [hs]; exact st_size), run_loadVar_row w g' 31 31 cs' (0, 0) _ hg' Try.underlying31 rfl (by rw [hs']; exact vl_infoD)]
theorem it_infoD : (Try.prog.info? 106).map (·.size) = some 3 := by kernel_rfl
theorem res_ci {fn : Func} {p q : Tmp} (h : fn.results = #[.cell p 81, .cell q 106]) (tmps : Array Value) (w : World) (g g' : Nat) (cs cs' : Array Value) (hp : tmps.getD p undef = .pointer (some ⟨g, 0, none⟩)) (hq : tmps.getD q undef = .pointer (some ⟨g', 0, none⟩)) (hg : w.heap[g]? = some (.cells cs 81 (0, 0))) (hg' : w.heap[g']? = some (.cells cs' 106 (0, 0))) (hs : cs.size = 5) (hs' : cs'.size = 3) :
  (results fn tmps).run Try.prog w = .ok (.tuple #[.agg cs, .agg cs']) w := by
 have hp' : tmps[p]?.getD undef = .pointer (some ⟨g, 0, none⟩) := by simpa using hp
 have hq' : tmps[q]?.getD undef = .pointer (some ⟨g', 0, none⟩) := by simpa using hq
 simp [results, h, hp', hq', asAddr, run_loadVar_row w g 81 81 cs (0, 0) _ hg Try.underlying81 rfl (by rw [hs]; exact st_size), run_loadVar_row w g' 106 106 cs' (0, 0) _ hg' Try.underlying106 rfl (by rw [hs']; exact it_infoD)]
theorem pr_infoD : (Try.prog.info? 34).map (·.size) = some 10 := by kernel_rfl
theorem res_cp {fn : Func} {p q : Tmp} (h : fn.results = #[.cell p 81, .cell q 34]) (tmps : Array Value) (w : World) (g g' : Nat) (cs cs' : Array Value) (hp : tmps.getD p undef = .pointer (some ⟨g, 0, none⟩)) (hq : tmps.getD q undef = .pointer (some ⟨g', 0, none⟩)) (hg : w.heap[g]? = some (.cells cs 81 (0, 0))) (hg' : w.heap[g']? = some (.cells cs' 34 (0, 0))) (hs : cs.size = 5) (hs' : cs'.size = 10) :
  (results fn tmps).run Try.prog w = .ok (.tuple #[.agg cs, .agg cs']) w := by
 have hp' : tmps[p]?.getD undef = .pointer (some ⟨g, 0, none⟩) := by simpa using hp
 have hq' : tmps[q]?.getD undef = .pointer (some ⟨g', 0, none⟩) := by simpa using hq
 simp [results, h, hp', hq', asAddr, run_loadVar_row w g 81 81 cs (0, 0) _ hg Try.underlying81 rfl (by rw [hs]; exact st_size), run_loadVar_row w g' 34 34 cs' (0, 0) _ hg' Try.underlying34 rfl (by rw [hs']; exact pr_infoD)]
theorem blkD {w w' : World} (h : w.grownBy w' none) {g : Nat} {o : Obj} (hg : w.heap[g]? = some o) : w'.heap[g]? = some o :=
 (h.block g (Array.getElem?_eq_some_iff.1 hg).1 (by simp)).trans hg
set_option maxRecDepth 100000 in
theorem fieldD0 (x y z : Value) (w : World) : (Instr.field 94 (.agg #[x, y, z]) 0).run Try.prog w = .ok x w := rfl
set_option maxRecDepth 100000 in
theorem fieldD1 (x y z : Value) (w : World) : (Instr.field 94 (.agg #[x, y, z]) 1).run Try.prog w = .ok y w := rfl
set_option maxRecDepth 100000 in
theorem fieldD2 (x y z : Value) (w : World) : (Instr.field 94 (.agg #[x, y, z]) 2).run Try.prog w = .ok z w := rfl
set_option maxRecDepth 100000 in
theorem rnow_any (b o n k : Nat) (T : List Tk) (w : World) (h : TkE b o n k T w) (i d c a : Nat) (hi : i < n) :
  Calls Try.prog 38 #[.agg #[.slice (some ⟨b, o, none⟩) n k, .int .i64 i, .int .i64 d, .int .i64 c, .int .i64 a]] w fun e w' => e = .returned (.agg #[.int .i64 (tkA T i).kind, .string (tkA T i).text, .int .i64 (tkA T i).pos]) ∧ w.grownBy w' none := by
 obtain ⟨c0, c1, c2⟩ := h.at hi
 have h1 := h.le
 have h2 := h.max
 have h3 := h.few
 have hlt := h.lt
 generalize tkA T i = t at *
 obtain ⟨kd, tx, ps⟩ := t
 simp only at *
 have i0 : (0 : Int) ≤ i := by omega
 have i1 : (i : Int) < n := by omega
 have i2 : (i : Int) < k := by omega
 clear h
 go_enter Try.func38, Try.ntmps38
 go_wp2_with fail
 exact bodyPost_ret (v := .agg #[.int .i64 kd, .string tx, .int .i64 ps]) (by simp [results, Try.results38, go_sem]) rfl ⟨rfl, (by repeat (first | with_reducible exact grown_reflT _ _ | with_reducible exact grown_reflT _ _ | with_reducible refine gq_set ?_ _ _ ?_ | with_reducible refine gq_al ?_ _ | with_reducible refine gq_row ?_ _ ?_ | with_reducible refine gq_dr ?_ | (simp; done) | (simp; omega) | omega))⟩
theorem str_dec (s t : ByteArray) : (s.toList == t.toList) = decide (s = t) := by
 by_cases h : s = t
 ·subst h; simp
 ·rw [decide_eq_false h, beq_eq_false_iff_ne]
  intro e
  rw [Lib.toList_data, Lib.toList_data] at e
  exact h (bytes_ext e)
set_option maxRecDepth 100000 in
theorem rfail_any (b o n k : Nat) (T : List Tk) (s : RS) (w : World) (h : TkE b o n k T w) (i d c a x : Nat) (hs : SR n T s i c a) (hx : x ≠ 0) :
  Calls Try.prog 39 #[.agg #[.slice (some ⟨b, o, none⟩) n k, .int .i64 i, .int .i64 d, .int .i64 c, .int .i64 a], .int .i64 x] w fun e w' => (∃ c' a' : Nat, e = .returned (.agg #[.slice (some ⟨b, o, none⟩) n k, .int .i64 i, .int .i64 d, .int .i64 c', .int .i64 a']) ∧ SR n T (s.wrong x) i c' a') ∧ w.grownBy w' none := by
 have HN := Lib.hid (fun W (hW : w.grownBy W none) (c : Nat) => rnow_any b o n k T W (h.keep hW) i d c a hs.lt)
 by_cases hc : c = 0
 ·subst hc
  have HS := Lib.hid (fun p : Nat => hs.fail (x := x) (p := p) hx)
  have A1 := Lib.hid (alc2a w (.cells #[.slice (some ⟨b, o, none⟩) n k, .int .i64 i, .int .i64 d, .int .i64 x, .int .i64 a] 81) (.cells #[.slice none 0 0, .int .i64 0, .int .i64 0, .int .i64 0, .int .i64 0] 81))
  have R1 := Lib.hid (alc2b w (.cells #[.slice (some ⟨b, o, none⟩) n k, .int .i64 i, .int .i64 d, .int .i64 x, .int .i64 a] 81) (.cells #[.slice none 0 0, .int .i64 0, .int .i64 0, .int .i64 0, .int .i64 0] 81))
  have G1 := Lib.hid (gq_al (gq_al (grown_reflT w none) (.cells #[.slice (some ⟨b, o, none⟩) n k, .int .i64 i, .int .i64 d, .int .i64 x, .int .i64 a] 81)) (.cells #[.slice none 0 0, .int .i64 0, .int .i64 0, .int .i64 0, .int .i64 0] 81))
  clear h hs hx
  generalize tkA T i = tk at *
  obtain ⟨kd, tx, ps⟩ := tk
  simp only at *
  go_enter Try.func39, Try.ntmps39
  go_wp2_with fail
  refine (HN.out _ G1.out _).mono ?_
  rintro e w2 ⟨rfl, hg⟩
  have R2 := Lib.hid (blkD hg R1.out)
  obtain ⟨⟨r0, r1, r2, r3, r4⟩, q0, q1, q2, q3, q4⟩ := boxD5 R2.out
  have A2 := Lib.hid (blkD hg A1.out)
  have G2 := Lib.hid (G1.out.trans hg)
  obtain ⟨⟨c0, c1, c2, c3, c4⟩, f0, f1, f2, f3, f4⟩ := boxD5 A2.out
  clear hg
  have t1 := fieldD2 (.int .i64 kd) (.string tx) (.int .i64 ps) w2
  go_wp2_with fail
  exact bodyPost_ret (results_cell_row rfl _ _ (w.heap.size + 1) _ _ _ _ rfl (setD5 (by repeat (first | with_reducible exact R2.out | refine blk_ne ?_ (by simp <;> omega)))) Try.underlying81 rfl st_size) rfl ⟨⟨x, ps, rfl, HS.out ps⟩, (by repeat (first | with_reducible exact G2.out | with_reducible exact grown_reflT _ _ | with_reducible refine gq_set ?_ _ _ ?_ | with_reducible refine gq_al ?_ _ | with_reducible refine gq_row ?_ _ ?_ | with_reducible refine gq_dr ?_ | (simp; done) | (simp; omega) | omega))⟩
 ·have HS := Lib.hid (hs.fail (x := x) (p := a) hc)
  have c0 : ((c : Int) == 0) = false := by rw [beq_eq_false_iff_ne]; omega
  clear h hs hx hc
  go_enter Try.func39, Try.ntmps39
  go_wp2_with fail
  exact bodyPost_ret (v := .agg #[.slice (some ⟨b, o, none⟩) n k, .int .i64 i, .int .i64 d, .int .i64 c, .int .i64 a]) (by simp [results, Try.results39, go_sem]) rfl ⟨⟨c, a, rfl, HS.out⟩, (by repeat (first | with_reducible exact grown_reflT _ _ | with_reducible exact grown_reflT _ _ | with_reducible refine gq_set ?_ _ _ ?_ | with_reducible refine gq_al ?_ _ | with_reducible refine gq_row ?_ _ ?_ | with_reducible refine gq_dr ?_ | (simp; done) | (simp; omega) | omega))⟩
set_option maxRecDepth 100000 in
theorem ris_any (b o n k : Nat) (T : List Tk) (s : RS) (w : World) (h : TkE b o n k T w) (i d c a : Nat) (t : ByteArray) (hs : SR n T s i c a) (ht : keyT t) :
  Calls Try.prog 32 #[.agg #[.slice (some ⟨b, o, none⟩) n k, .int .i64 i, .int .i64 d, .int .i64 c, .int .i64 a], .string t] w fun e w' => e = .returned (.bool (s.comes t)) ∧ w.grownBy w' none := by
 have HN := Lib.hid (fun W (hW : w.grownBy W none) => rnow_any b o n k T W (h.keep hW) i d c a hs.lt)
 have A1 := Lib.hid (alc1 w (.cells #[.slice (some ⟨b, o, none⟩) n k, .int .i64 i, .int .i64 d, .int .i64 c, .int .i64 a] 81))
 have G1 := Lib.hid (gq_al (grown_reflT w none) (.cells #[.slice (some ⟨b, o, none⟩) n k, .int .i64 i, .int .i64 d, .int .i64 c, .int .i64 a] 81))
 by_cases hc : c = 0
 ·subst hc
  have hd := hs.hd
  have hm := h.tw _ (tkA_mem (T := T) (i := i) (by have := hs.lt; have := h.len; omega))
  have hk : s.comes t = true → (tkA T i).kind = 5 ∨ (tkA T i).kind = 4 := fun hh => by
   have : s.hd.text = t := of_decide_eq_true hh
   rw [hd] at this
   rw [this] at hm
   exact ht.imp hm.word hm.sign
  have hcm : s.comes t = decide ((tkA T i).text = t) := by unfold RS.comes; rw [hd]
  rw [hcm] at hk ⊢
  clear h hs hd hm hcm ht
  simp only [show ((0 : Nat) : Int) = 0 from rfl] at *
  generalize tkA T i = tk at *
  obtain ⟨kd, tx, ps⟩ := tk
  simp only at *
  by_cases h5 : kd = 5
  ·subst h5
   clear hk
   go_enter Try.func32, Try.ntmps32
   go_wp2_with fail
   refine (HN.out _ G1.out).mono ?_
   rintro e w2 ⟨rfl, hg⟩
   have A2 := Lib.hid (blkD hg A1.out)
   have G2 := Lib.hid (G1.out.trans hg)
   obtain ⟨⟨c0, c1, c2, c3, c4⟩, f0, f1, f2, f3, f4⟩ := boxD5 A2.out
   clear hg
   have t1 := fieldD0 (.int .i64 5) (.string tx) (.int .i64 ps) w2
   go_wp2_with fail
   refine (HN.out _ G2.out).mono ?_
   rintro e w3 ⟨rfl, hg⟩
   have A3 := Lib.hid (blkD hg A2.out)
   have G3 := Lib.hid (G2.out.trans hg)
   obtain ⟨⟨c0, c1, c2, c3, c4⟩, f0, f1, f2, f3, f4⟩ := boxD5 A3.out
   clear hg
   have t2 := fieldD1 (.int .i64 5) (.string tx) (.int .i64 ps) w3
   go_wp2_with fail
   go_ret
   exact ⟨by rw [str_dec]; rfl, G3.out⟩
  ·have k5 : ((kd : Int) == 5) = false := by rw [beq_eq_false_iff_ne]; omega
   by_cases h4 : kd = 4
   ·subst h4
    clear hk h5
    go_enter Try.func32, Try.ntmps32
    go_wp2_with fail
    refine (HN.out _ G1.out).mono ?_
    rintro e w2 ⟨rfl, hg⟩
    have A2 := Lib.hid (blkD hg A1.out)
    have G2 := Lib.hid (G1.out.trans hg)
    obtain ⟨⟨c0, c1, c2, c3, c4⟩, f0, f1, f2, f3, f4⟩ := boxD5 A2.out
    clear hg
    have t1 := fieldD0 (.int .i64 4) (.string tx) (.int .i64 ps) w2
    go_wp2_with fail
    refine (HN.out _ G2.out).mono ?_
    rintro e w3 ⟨rfl, hg⟩
    have A3 := Lib.hid (blkD hg A2.out)
    have G3 := Lib.hid (G2.out.trans hg)
    obtain ⟨⟨c0, c1, c2, c3, c4⟩, f0, f1, f2, f3, f4⟩ := boxD5 A3.out
    clear hg
    have t2 := fieldD0 (.int .i64 4) (.string tx) (.int .i64 ps) w3
    go_wp2_with fail
    refine (HN.out _ G3.out).mono ?_
    rintro e w4 ⟨rfl, hg⟩
    have A4 := Lib.hid (blkD hg A3.out)
    have G4 := Lib.hid (G3.out.trans hg)
    obtain ⟨⟨c0, c1, c2, c3, c4⟩, f0, f1, f2, f3, f4⟩ := boxD5 A4.out
    clear hg
    have t2 := fieldD1 (.int .i64 4) (.string tx) (.int .i64 ps) w4
    go_wp2_with fail
    go_ret
    exact ⟨by rw [str_dec]; rfl, G4.out⟩
   ·have k4 : ((kd : Int) == 4) = false := by rw [beq_eq_false_iff_ne]; omega
    have hf : decide (tx = t) = false := by
     cases hh : decide (tx = t) with
     | false => rfl
     | true => rcases hk hh with e | e <;> omega
    rw [hf]
    clear hk h5 h4 hf
    go_enter Try.func32, Try.ntmps32
    go_wp2_with fail
    refine (HN.out _ G1.out).mono ?_
    rintro e w2 ⟨rfl, hg⟩
    have A2 := Lib.hid (blkD hg A1.out)
    have G2 := Lib.hid (G1.out.trans hg)
    obtain ⟨⟨c0, c1, c2, c3, c4⟩, f0, f1, f2, f3, f4⟩ := boxD5 A2.out
    clear hg
    have t1 := fieldD0 (.int .i64 kd) (.string tx) (.int .i64 ps) w2
    go_wp2_with fail
    refine (HN.out _ G2.out).mono ?_
    rintro e w3 ⟨rfl, hg⟩
    have A3 := Lib.hid (blkD hg A2.out)
    have G3 := Lib.hid (G2.out.trans hg)
    obtain ⟨⟨c0, c1, c2, c3, c4⟩, f0, f1, f2, f3, f4⟩ := boxD5 A3.out
    clear hg
    have t2 := fieldD0 (.int .i64 kd) (.string tx) (.int .i64 ps) w3
    go_wp2_with fail
    go_ret
    exact ⟨rfl, G3.out⟩
 ·have c0 : ((c : Int) == 0) = false := by rw [beq_eq_false_iff_ne]; omega
  have hb := (hs.bad hc).2.2
  have hf : s.comes t = false := by
   unfold RS.comes
   rw [hb]
   exact decide_eq_false (fun e => keyT_ne ht e.symm)
  rw [hf]
  clear h hs hb hf ht hc
  go_enter Try.func32, Try.ntmps32
  go_wp2_with fail
  go_ret
  exact ⟨rfl, G1.out⟩
theorem rstep_any (b o n k : Nat) (T : List Tk) (s : RS) (w : World) (h : TkE b o n k T w) (i d a : Nat) (hs : SR n T s i 0 a) (hm : (tkA T i).kind ≠ 0) :
  Calls Try.prog 33 #[.agg #[.slice (some ⟨b, o, none⟩) n k, .int .i64 i, .int .i64 d, .int .i64 0, .int .i64 a]] w fun e w' => e = .returned (.agg #[.slice (some ⟨b, o, none⟩) n k, .int .i64 ((i + 1 : Nat) : Int), .int .i64 d, .int .i64 0, .int .i64 a]) ∧ w.grownBy w' none := by
 have HN := Lib.hid (fun W (hW : w.grownBy W none) => rnow_any b o n k T W (h.keep hW) i d 0 a hs.lt)
 simp only [show ((0 : Nat) : Int) = 0 from rfl] at HN
 have A1 := Lib.hid (alc2a w (.cells #[.slice (some ⟨b, o, none⟩) n k, .int .i64 i, .int .i64 d, .int .i64 0, .int .i64 a] 81) (.cells #[.slice none 0 0, .int .i64 0, .int .i64 0, .int .i64 0, .int .i64 0] 81))
 have R1 := Lib.hid (alc2b w (.cells #[.slice (some ⟨b, o, none⟩) n k, .int .i64 i, .int .i64 d, .int .i64 0, .int .i64 a] 81) (.cells #[.slice none 0 0, .int .i64 0, .int .i64 0, .int .i64 0, .int .i64 0] 81))
 have G1 := Lib.hid (gq_al (gq_al (grown_reflT w none) (.cells #[.slice (some ⟨b, o, none⟩) n k, .int .i64 i, .int .i64 d, .int .i64 0, .int .i64 a] 81)) (.cells #[.slice none 0 0, .int .i64 0, .int .i64 0, .int .i64 0, .int .i64 0] 81))
 have hlt := hs.lt
 have hfew := h.few
 have n1 : IntKind.i64.wrap ((i : Int) + 1) = ((i + 1 : Nat) : Int) := by rw [IntKind.wrap_i64]; omega
 clear h hs
 generalize tkA T i = tk at *
 obtain ⟨kd, tx, ps⟩ := tk
 simp only at *
 have k0 : ((kd : Int) != 0) = true := by
  have : (kd : Int) ≠ 0 := by omega
  simpa using this
 clear hm
 go_enter Try.func33, Try.ntmps33
 go_wp2_with fail
 refine (HN.out _ G1.out).mono ?_
 rintro e w2 ⟨rfl, hg⟩
 have R2 := Lib.hid (blkD hg R1.out)
 obtain ⟨⟨r0, r1, r2, r3, r4⟩, q0, q1, q2, q3, q4⟩ := boxD5 R2.out
 have A2 := Lib.hid (blkD hg A1.out)
 have G2 := Lib.hid (G1.out.trans hg)
 obtain ⟨⟨c0, c1, c2, c3, c4⟩, f0, f1, f2, f3, f4⟩ := boxD5 A2.out
 clear hg
 have t1 := fieldD0 (.int .i64 kd) (.string tx) (.int .i64 ps) w2
 go_wp2_with fail
 exact bodyPost_ret (results_cell_row rfl _ _ (w.heap.size + 1) _ _ _ _ rfl (setD5 (by repeat (first | with_reducible exact R2.out | refine blk_ne ?_ (by simp <;> omega)))) Try.underlying81 rfl st_size) rfl ⟨rfl, (by repeat (first | with_reducible exact G2.out | with_reducible exact grown_reflT _ _ | with_reducible refine gq_set ?_ _ _ ?_ | with_reducible refine gq_al ?_ _ | with_reducible refine gq_row ?_ _ ?_ | with_reducible refine gq_dr ?_ | (simp; done) | (simp; omega) | omega))⟩
theorem rstep_bad (b o n k : Nat) (w : World) (i d c a : Nat) (hc : c ≠ 0) :
  Calls Try.prog 33 #[.agg #[.slice (some ⟨b, o, none⟩) n k, .int .i64 i, .int .i64 d, .int .i64 c, .int .i64 a]] w fun e w' => e = .returned (.agg #[.slice (some ⟨b, o, none⟩) n k, .int .i64 i, .int .i64 d, .int .i64 c, .int .i64 a]) ∧ w.grownBy w' none := by
 have c0 : ((c : Int) == 0) = false := by rw [beq_eq_false_iff_ne]; omega
 clear hc
 go_enter Try.func33, Try.ntmps33
 go_wp2_with fail
 exact bodyPost_ret (v := .agg #[.slice (some ⟨b, o, none⟩) n k, .int .i64 i, .int .i64 d, .int .i64 c, .int .i64 a]) (by simp [results, Try.results33, go_sem]) rfl ⟨rfl, (by repeat (first | with_reducible exact grown_reflT _ _ | with_reducible exact grown_reflT _ _ | with_reducible refine gq_set ?_ _ _ ?_ | with_reducible refine gq_al ?_ _ | with_reducible refine gq_row ?_ _ ?_ | with_reducible refine gq_dr ?_ | (simp; done) | (simp; omega) | omega))⟩
end Go.Proofs.Ytfambadamebjjaa
namespace Go.Proofs.Ytfambadamebjjaa
open Go.RowKit

end Go.Proofs.Ytfambadamebjjaa
