import Derived.Test.YtfambadamebjjaaZs11
set_option linter.unusedSimpArgs false
set_option linter.unusedVariables false
namespace Go.Proofs.Ytfambadamebjjaa

def RS.bk (s t : RS) : Prop := t.err = none → s.err = none
theorem RS.bk.refl (s : RS) : s.bk s := id
theorem RS.bk.trans {s t u : RS} (h : s.bk t) (h' : t.bk u) : s.bk u := fun e => h (h' e)
def Prd.nms : Prd → List ByteArray
 | .mk k c _ _ o _ _ _ => if k = 3 ∨ k = 5 ∨ k = 6 ∨ k = 7 then [c] else if k = 4 then [c, o] else []
def Prd.own : Prd → Prop
 | .mk k c _ _ o _ _ _ => (k = 3 ∨ k = 5 ∨ k = 6 ∨ k = 7 → c ≠ ⟨#[]⟩ ∧ o = ⟨#[]⟩) ∧ (k = 4 → c ≠ ⟨#[]⟩ ∧ o ≠ ⟨#[]⟩) ∧ (¬ (k = 3 ∨ k = 4 ∨ k = 5 ∨ k = 6 ∨ k = 7) → c = ⟨#[]⟩ ∧ o = ⟨#[]⟩)
mutual
def Prd.wf : Prd → Prop
 | .mk k c r v o l ks p => Prd.own (.mk k c r v o l ks p) ∧ Prd.wfs ks
def Prd.wfs : List Prd → Prop
 | [] => True
 | x :: r => x.wf ∧ Prd.wfs r
end
def Itm.wf (x : Itm) : Prop := (x.agg ≠ 1 → x.col ≠ ⟨#[]⟩) ∧ (x.agg = 1 → x.col = ⟨#[]⟩)
end Go.Proofs.Ytfambadamebjjaa
namespace Go.Proofs.Ytfambadamebjjaa
open Go.RowKit

end Go.Proofs.Ytfambadamebjjaa
namespace Go.Proofs.Ytfambadamebjjaa

def Tk.e (t : Tk) : Tk := ⟨t.kind, t.text, 0⟩
def erE (e : Option (Nat × Nat)) : Option (Nat × Nat) := e.map fun p => (0, p.2)
def RS.e (s : RS) : RS := ⟨s.rest.map Tk.e, erE s.err⟩
def Itm.e (x : Itm) : Itm := ⟨x.agg, x.col, 0⟩
def Kyo.e (x : Kyo) : Kyo := ⟨x.item.e, x.desc⟩
mutual
def Prd.e : Prd → Prd
 | .mk k c r v o l ks _ => .mk k c r v o l (Prd.es ks) 0
def Prd.es : List Prd → List Prd
 | [] => []
 | x :: r => x.e :: Prd.es r
end
theorem Prd.es_map (l : List Prd) : Prd.es l = l.map Prd.e := by
 induction l with
 | nil => rfl
 | cons x r ih => simp [Prd.es, ih]
def Qry.e (q : Qry) : Qry := ⟨q.items.map Itm.e, q.all, q.table, q.cond.e, q.group.map Itm.e, q.order.map Kyo.e, q.limit⟩

theorem joinP_e (kind p : Nat) (l : List Prd) : joinP kind 0 (l.map Prd.e) = (joinP kind p l).e := by
 unfold joinP
 match l with
 | [] => simp [Prd.e, Prd.es]
 | [x] => simp
 | x :: y :: r => simp [Prd.e, Prd.es_map]
end Go.Proofs.Ytfambadamebjjaa
namespace Go.Proofs.Ytfambadamebjjaa

mutual
def Prd.n : Prd → Nat
 | .mk _ _ _ _ _ _ ks _ => 1 + Prd.ns ks
def Prd.ns : List Prd → Nat
 | [] => 0
 | x :: r => x.n + Prd.ns r
end
theorem Prd.ns_app (l m : List Prd) : Prd.ns (l ++ m) = Prd.ns l + Prd.ns m := by
 induction l with
 | nil => simp [Prd.ns]
 | cons x r ih => simp [Prd.ns, ih]; omega
theorem Prd.ns_one (x : Prd) : Prd.ns [x] = x.n := by simp [Prd.ns]
def Small (s : RS) (r : RS × Prd) : Prop := r.2.n + 3 * r.1.rest.length ≤ 3 * s.rest.length + 1
theorem partsF_n (word : ByteArray) (hw : word ≠ ⟨#[]⟩) (pf : RS → RS × Prd) (hn : ∀ s : RS, s.ok → s.next (pf s).1) (hz : ∀ s : RS, s.ok → Small s (pf s)) : ∀ (f : Nat) (s : RS) (acc : List Prd), s.ok →
  Prd.ns (partsF word pf f s acc).2 + 2 * (partsF word pf f s acc).2.length + 3 * (partsF word pf f s acc).1.rest.length ≤ Prd.ns acc + 2 * acc.length + 3 * s.rest.length
 | 0, s, _, _ => Nat.le_refl _
 | f + 1, s, acc, h => by
  rw [partsF]
  split
  ·rename_i hc
   have hm := RS.more_of hw hc
   have h0 := (h.pass hm).2
   have h1 := h.npass hm
   have h2 := hz _ h1.1
   unfold Small at h2
   have h3 := partsF_n word hw pf hn hz f (pf s.pass).1 (acc ++ [(pf s.pass).2]) (hn _ h1.1).1
   rw [Prd.ns_app, Prd.ns_one, List.length_append] at h3
   simp only [List.length_cons, List.length_nil] at h3
   omega
  ·exact Nat.le_refl _
theorem joinP_n (kind pos : Nat) (l : List Prd) : (joinP kind pos l).n + 1 ≤ Prd.ns l + l.length ∨ l = [] := by
 unfold joinP
 match l with
 | [] => simp
 | [x] => simp [Prd.ns]
 | x :: y :: r => simp [Prd.n, Prd.ns]; omega
theorem partsF_len (word : ByteArray) (pf : RS → RS × Prd) : ∀ (f : Nat) (s : RS) (acc : List Prd), acc.length ≤ (partsF word pf f s acc).2.length
 | 0, _, _ => Nat.le_refl _
 | f + 1, s, acc => by
  rw [partsF]
  split
  ·have := partsF_len word pf f (pf s.pass).1 (acc ++ [(pf s.pass).2])
   simp at this; omega
  ·exact Nat.le_refl _
theorem partsL_n (kind : Nat) (word : ByteArray) (hw : word ≠ ⟨#[]⟩) (pf : RS → RS × Prd) (hn : ∀ s : RS, s.ok → s.next (pf s).1) (hz : ∀ s : RS, s.ok → Small s (pf s)) (s : RS) (h : s.ok) : Small s (partsL kind word pf s) := by
 have h1 := hz s h
 have h2 := partsF_n word hw pf hn hz (pf s).1.rest.length (pf s).1 [(pf s).2] (hn s h).1
 have h3 := partsF_len word pf (pf s).1.rest.length (pf s).1 [(pf s).2]
 rw [Prd.ns_one] at h2
 unfold Small at h1 ⊢
 unfold partsL
 dsimp only
 generalize partsF word pf (pf s).1.rest.length (pf s).1 [(pf s).2] = r at *
 simp only [List.length_cons, List.length_nil] at h2 h3
 rcases joinP_n kind s.hd.pos r.2 with h4 | h4
 ·omega
 ·rw [h4] at h3; simp at h3
theorem amongL_n (col : ByteArray) (pos : Nat) (s : RS) (h : s.ok) : (amongL col pos s).2.n + 3 * (amongL col pos s).1.rest.length ≤ 3 * s.rest.length + 3 := by
 have h1 := (amongL_next col pos s h).2
 have h2 : (amongL col pos s).2.n ≤ 3 := by
  unfold amongL
  split <;> simp [Prd.n, Prd.ns]
 omega
theorem nameP_n (pos : Nat) (s : RS) (h : s.ok) (hc : s.named = true) : Small s (nameP pos s) := by
 have e0 : s.name.1 = s.pass := by unfold RS.name; rw [if_pos hc]
 have hp := (h.pass (RS.more_named hc)).2
 have h0 := h.nname
 rw [e0] at h0
 unfold Small nameP
 dsimp only
 rw [e0]
 generalize s.pass = u at *
 have leaf : ∀ (t : RS) (k : Nat) (c : ByteArray) (r : Nat) (v : Vl) (o : ByteArray) (n : Nat), u.next t → (Prd.mk k c r v o [] [] n).n + 3 * t.rest.length ≤ 3 * s.rest.length + 1 := fun t k c r v o n ht => by
  have := ht.2
  simp only [Prd.n, Prd.ns]
  omega
 split
 ·rename_i hi
  have h1 := h0.1.npass (RS.more_of (by decide) hi)
  split
  ·rename_i hd
   have h2 := h1.trans (h1.1.npass (RS.more_of (by decide) hd))
   exact leaf _ _ _ _ _ _ _ (h2.trans (h2.1.nneed (by decide)))
  ·exact leaf _ _ _ _ _ _ _ (h1.trans (h1.1.nneed (by decide)))
 ·split
  ·rename_i hi
   have hm := RS.more_of (by decide) hi
   have h1 := h0.1.npass hm
   have h2 := amongL_n s.name.2 pos u.pass h1.1
   have h3 := (h0.1.pass hm).2
   simp only [notP, Prd.n, Prd.ns]
   omega
  ·have h1 := h0.1.nrel
   split
   ·have h2 := amongL_n s.name.2 pos u.rel.1 h1.1
    have := h1.2
    omega
   ·split
    ·exact leaf _ _ _ _ _ _ _ (h1.trans h1.1.nname)
    ·exact leaf _ _ _ _ _ _ _ (h1.trans h1.1.nliteral)
theorem litP_n (pos : Nat) (s : RS) (h : s.ok) : Small s (litP pos s) := by
 have h1 := (litP_next pos s h).2
 have h2 : (litP pos s).2.n ≤ 1 := by
  unfold litP truthP
  dsimp only
  split
  ·simp [Prd.n, Prd.ns]
  ·split <;> simp [Prd.n, Prd.ns]
 unfold Small
 omega
theorem oneF_n : ∀ (d : Nat) (s : RS), s.ok → Small s (oneF d s)
 | 0, s, h => by
  have := (oneF_next 0 s h).2
  have h2 : (oneF 0 s).2.n ≤ 1 := by simp [oneF, Prd.none, Prd.n, Prd.ns]
  unfold Small
  omega
 | d + 1, s, h => by
  unfold Small
  rw [oneF]
  split
  ·rename_i hc
   have hm := RS.more_of (t := bNot) (by decide) hc
   have h1 := oneF_n d _ (h.pass hm).1
   have h2 := (h.pass hm).2
   unfold Small at h1
   simp only [notP, Prd.n, Prd.ns]
   omega
  ·split
   ·rename_i hc
    have hm := RS.more_of (t := bOpen) (by decide) hc
    have h1 := partsL_n 9 bOr (by decide) _ (fun s h => partsL_next 8 bAnd (by decide) _ (oneF_next d) s h) (fun s h => partsL_n 8 bAnd (by decide) _ (oneF_next d) (oneF_n d) s h) _ (h.pass hm).1
    have h2 := (h.pass hm).2
    have h3 := ((partsL_next 9 bOr (by decide) _ (fun s h => partsL_next 8 bAnd (by decide) _ (oneF_next d) s h) _ (h.pass hm).1).1.nneed (t := bShut) (by decide)).2
    unfold Small at h1
    dsimp only
    omega
   ·split
    ·rename_i hc; exact nameP_n _ _ h hc
    ·exact litP_n _ _ h
theorem anyF_n (d : Nat) (s : RS) (h : s.ok) : Small s (anyF d s) :=
 partsL_n 9 bOr (by decide) _ (fun s h => partsL_next 8 bAnd (by decide) _ (oneF_next d) s h) (fun s h => partsL_n 8 bAnd (by decide) _ (oneF_next d) (oneF_n d) s h) s h
theorem whereQ_n (s : RS) (h : s.ok) : (whereQ s).2.n ≤ 3 * s.rest.length + 1 := by
 unfold whereQ
 split
 ·rename_i hc
  have hm := RS.more_of (t := bWhere) (by decide) hc
  have h1 := anyF_n 20 _ (h.pass hm).1
  have h2 := (h.pass hm).2
  unfold Small at h1
  omega
 ·simp [Prd.none, Prd.n, Prd.ns]
end Go.Proofs.Ytfambadamebjjaa
