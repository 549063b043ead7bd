import Derived.Test.YtfambadamebjjaaZs41
import Derived.Test.YtfambadamebjjaaZs02
import Derived.Test.YtfambadamebjjaaZs06
import Derived.Test.YtfambadamebjjaaZs07
import Derived.Test.YtfambadamebjjaaZs35
import Derived.Test.YtfambadamebjjaaZs19
import Derived.Test.YtfambadamebjjaaZs38
set_option linter.unusedSimpArgs false
set_option linter.unusedVariables false
namespace Go.Proofs.Ytfambadamebjjaa
open Go.RowKit
set_option linter.unusedVariables false
def vlV (v : Vv) : Vl := ⟨v.k, v.n, v.s⟩
def colV (M : ByteArray) (l : List Cl) (r : List Vv) (d : Vl) : Vl := if colN M l < l.length then vlV (r.getD (colN M l) default) else d
def boolT (b : Bool) : Int := if b then 1 else 0
def kindT (k rel : Nat) (a b v : Vl) (ls : List Vl) (kids : List Int) : Int :=
 if k = 2 then 0 else if k = 3 ∨ k = 4 then ofT rel a b else if k = 5 then inT a ls else if k = 6 then boolT (a.k == 0) else if k = 7 then boolT (a.k != 0)
 else if k = 8 then joinT 0 1 kids else if k = 9 then joinT 1 0 kids else if k = 10 then notT (kids.getD 0 default) else if k = 11 then ofT rel v (ls.getD 0 default) else 1
mutual
def trP (l : List Cl) (r : List Vv) : Prd → Int
 | .mk k c rel v o ls ks _ => kindT k rel (colV c l r ⟨0, 0, ⟨#[]⟩⟩) (colV o l r v) v ls (trPs l r ks)
def trPs (l : List Cl) (r : List Vv) : List Prd → List Int
 | [] => []
 | x :: ks => trP l r x :: trPs l r ks
end
theorem trPs_map (l : List Cl) (r : List Vv) (ks : List Prd) : trPs l r ks = ks.map (trP l r) := by
 induction ks with
 | nil => rfl
 | cons x ks ih => simp [trPs, ih]
mutual
def Prd.w2 : Prd → Prop
 | .mk k _ _ _ _ _ ks _ => (k = 10 → ks ≠ []) ∧ Prd.w2s ks
def Prd.w2s : List Prd → Prop
 | [] => True
 | x :: r => x.w2 ∧ Prd.w2s r
end
theorem isT_ofT (r : Int) (x y : Vl) : isT (ofT r x y) := by
 unfold isT
 show (ofT r x y = 0 ∨ ofT r x y = 1 ∨ ofT r x y = 2)
 rw [show ofT r x y = if relB r = false then 0 else if x.k = 0 then 2 else if y.k = 0 then 2 else if saysB r (x.ord y) = true then 1 else 0 from rfl]
 repeat' split
 all_goals simp
theorem isT_join (a b : Int) (ha : isT a) (hb : isT b) (l : List Int) : isT (joinT a b l) := by
 unfold joinT
 repeat' split
 ·exact ha
 ·exact .inr (.inr rfl)
 ·exact hb
theorem isT_bool (b : Bool) : isT (boolT b) := by cases b <;> simp [boolT, isT]
theorem isT_not {a : Int} (h : isT a) : isT (notT a) := by
 rcases h with rfl | rfl | rfl <;> simp [notT, isT]
theorem isT_kind (k rel : Nat) (a b v : Vl) (ls : List Vl) (kids : List Int) (hk : ∀ x ∈ kids, isT x) (h0 : k = 10 → kids ≠ []) : isT (kindT k rel a b v ls kids) := by
 unfold kindT
 split
 ·exact .inl rfl
 split
 ·exact isT_ofT _ _ _
 split
 ·exact isT_join _ _ (.inr (.inl rfl)) (.inl rfl) _
 split
 ·exact isT_bool _
 split
 ·exact isT_bool _
 split
 ·exact isT_join _ _ (.inl rfl) (.inr (.inl rfl)) _
 split
 ·exact isT_join _ _ (.inr (.inl rfl)) (.inl rfl) _
 split
 ·rename_i h10
  have hne := h0 h10
  cases kids with
  | nil => exact absurd rfl hne
  | cons x r => exact isT_not (hk x (by simp))
 split
 ·exact isT_ofT _ _ _
 ·exact .inr (.inl rfl)
mutual
theorem isT_trP (l : List Cl) (r : List Vv) : ∀ p : Prd, p.w2 → isT (trP l r p)
 | .mk k c rel v o ls ks _, h => by
  rw [trP]
  refine isT_kind _ _ _ _ _ _ _ (isT_trPs l r ks h.2) (fun e => ?_)
  have := h.1 e
  cases ks with
  | nil => exact absurd rfl this
  | cons x r => simp [trPs]
theorem isT_trPs (l : List Cl) (r : List Vv) : ∀ ks : List Prd, Prd.w2s ks → ∀ x ∈ trPs l r ks, isT x
 | [], _ => fun x hx => by simp [trPs] at hx
 | p :: ks, h => fun x hx => by
  rw [trPs] at hx
  rcases List.mem_cons.1 hx with rfl | hx
  ·exact isT_trP l r p h.1
  ·exact isT_trPs l r ks h.2 x hx
end
mutual
theorem trP_e (l : List Cl) (r : List Vv) : ∀ p : Prd, trP l r p.e = trP l r p
 | .mk k c rel v o ls ks _ => by rw [Prd.e, trP, trP, trPs_e l r ks]
theorem trPs_e (l : List Cl) (r : List Vv) : ∀ ks : List Prd, trPs l r (Prd.es ks) = trPs l r ks
 | [] => rfl
 | x :: ks => by rw [Prd.es, trPs, trPs, trP_e l r x, trPs_e l r ks]
end
end Go.Proofs.Ytfambadamebjjaa
namespace Go.Proofs.Ytfambadamebjjaa
open Go.RowKit
set_option linter.unusedVariables false
set_option linter.unusedSimpArgs false
def Vl.fine (v : Vl) : Prop := v.good = true ∧ v.s.size ≤ 60
theorem fine_z : Vl.fine ⟨0, 0, ⟨#[]⟩⟩ := ⟨by decide +kernel, by decide⟩
theorem fine_i (n : Int) : Vl.fine ⟨2, n, ⟨#[]⟩⟩ := by
 refine ⟨?_, by show 0 ≤ 60; decide⟩
 show goodB 2 n ⟨#[]⟩ = true
 have e : (⟨#[]⟩ : ByteArray).toList.isEmpty = true := by decide +kernel
 simp [goodB, e]
theorem litV_fine (t : ByteArray) : (litV t).fine := by
 unfold litV readV
 split
 ·exact ⟨by decide +kernel, by decide +kernel⟩
 split
 ·exact ⟨by decide +kernel, by decide +kernel⟩
 split
 ·exact ⟨by decide +kernel, by decide +kernel⟩
 have hi : ∀ l, (vlOf (intRes l)).fine := fun l => by
  unfold intRes
  split
  ·split
   ·exact fine_i _
   ·exact ⟨by decide +kernel, by decide +kernel⟩
  ·exact ⟨by decide +kernel, by decide +kernel⟩
 have ht : ∀ o, (vlOf (textRes o)).fine := fun o => by
  unfold textRes
  split
  ·exact ⟨by decide +kernel, by decide +kernel⟩
  ·split
   ·rename_i t h
    refine ⟨?_, h⟩
    show goodB 3 0 ⟨t.toArray⟩ = true
    have h2 : (⟨t.toArray⟩ : ByteArray).size ≤ 60 := h
    simp [goodB, h2]
   ·exact ⟨by decide +kernel, by decide +kernel⟩
 split
 ·split
  ·exact ht _
  ·exact hi _
 ·exact hi _
theorem literal_fine (s : RS) : s.literal.2.fine := by
 unfold RS.literal
 split
 ·exact litV_fine _
 ·exact fine_z
theorem listF_all {β : Type} (P : β → Prop) (most : Nat) (nx : RS → RS × β) (hn : ∀ s, P (nx s).2) : ∀ (f : Nat) (s : RS) (acc : List β), (∀ x ∈ acc, P x) → ∀ x ∈ (listF most nx f s acc).2, P x
 | 0, _, _, ha => ha
 | f + 1, s, acc, ha => by
  rw [listF]
  split
  ·exact ha
  ·have hb : ∀ x ∈ acc ++ [(nx s).2], P x := fun x hx => (List.mem_append.1 hx).elim (ha x) (fun e => by rw [List.mem_singleton.1 e]; exact hn s)
   split
   ·exact listF_all P most nx hn f _ _ hb
   ·exact hb
mutual
def Prd.gd : Prd → Prop
 | .mk k _ _ v _ ls ks _ => v.fine ∧ (∀ x ∈ ls, x.fine) ∧ ls.length ≤ 12 ∧ (k = 10 → ks ≠ []) ∧ Prd.gds ks
def Prd.gds : List Prd → Prop
 | [] => True
 | x :: r => x.gd ∧ Prd.gds r
end
theorem Prd.gds_iff (l : List Prd) : Prd.gds l ↔ ∀ x ∈ l, x.gd := by
 induction l with
 | nil => simp [Prd.gds]
 | cons x r ih => simp [Prd.gds, ih]
theorem Prd.gds_app (l m : List Prd) : Prd.gds (l ++ m) ↔ Prd.gds l ∧ Prd.gds m := by
 rw [Prd.gds_iff, Prd.gds_iff, Prd.gds_iff]
 simp only [List.mem_append]
 exact ⟨fun h => ⟨fun x hx => h x (.inl hx), fun x hx => h x (.inr hx)⟩, fun h x hx => hx.elim (h.1 x) (h.2 x)⟩
mutual
theorem Prd.gd_w2 : ∀ p : Prd, p.gd → p.w2
 | .mk _ _ _ _ _ _ ks _, h => ⟨h.2.2.2.1, Prd.gds_w2 ks h.2.2.2.2⟩
theorem Prd.gds_w2 : ∀ l : List Prd, Prd.gds l → Prd.w2s l
 | [], _ => trivial
 | x :: r, h => ⟨Prd.gd_w2 x h.1, Prd.gds_w2 r h.2⟩
end
theorem leaf_gd {k : Nat} {c : ByteArray} {r : Nat} {v : Vl} {o : ByteArray} {p : Nat} (hk : k ≠ 10) (hv : v.fine) : (Prd.mk k c r v o [] [] p).gd := ⟨hv, by simp, by simp, fun e => absurd e hk, trivial⟩
theorem partsF_gd (word : ByteArray) (pf : RS → RS × Prd) (hp : ∀ s : RS, (pf s).2.gd) : ∀ (f : Nat) (s : RS) (acc : List Prd), Prd.gds acc → Prd.gds (partsF word pf f s acc).2
 | 0, _, _, ha => ha
 | f + 1, s, acc, ha => by
  rw [partsF]
  split
  ·exact partsF_gd word pf hp f _ _ ((Prd.gds_app _ _).2 ⟨ha, hp _, trivial⟩)
  ·exact ha
theorem joinP_gd (kind p : Nat) (hk : kind ≠ 10) (l : List Prd) (h : Prd.gds l) : (joinP kind p l).gd := by
 unfold joinP
 split
 ·exact h.1
 ·exact ⟨fine_z, by simp, by simp, fun e => absurd e hk, h⟩
theorem partsL_gd (kind : Nat) (hk : kind ≠ 10) (word : ByteArray) (pf : RS → RS × Prd) (hp : ∀ s : RS, (pf s).2.gd) (s : RS) : (partsL kind word pf s).2.gd :=
 joinP_gd kind _ hk _ (partsF_gd word pf hp _ _ _ ⟨hp s, trivial⟩)
theorem amongL_gd (col : ByteArray) (pos : Nat) (s : RS) : (amongL col pos s).2.gd := by
 unfold amongL
 split
 ·exact ⟨fine_z, listF_all _ 12 RS.literal literal_fine 13 _ [] (by simp), listF_len 12 RS.literal 13 _ [] (by simp), by simp, trivial⟩
 ·exact ⟨fine_z, by simp, by simp, by simp, leaf_gd (by decide) (literal_fine _), leaf_gd (by decide) (literal_fine _), trivial⟩
theorem notP_gd {p : Prd} (h : p.gd) (n : Nat) : (notP p n).gd := ⟨fine_z, by simp, by simp, by simp, h, trivial⟩
theorem nameP_gd (pos : Nat) (s : RS) : (nameP pos s).2.gd := by
 unfold nameP
 dsimp only
 repeat' split
 all_goals first | exact notP_gd (amongL_gd _ _ _) _ | exact amongL_gd _ _ _ | exact leaf_gd (by decide) fine_z | exact leaf_gd (by decide) (literal_fine _)
theorem litP_gd (pos : Nat) (s : RS) : (litP pos s).2.gd := by
 unfold litP
 dsimp only
 split
 ·unfold truthP
  exact leaf_gd (by split <;> decide) fine_z
 ·split
  ·exact leaf_gd (by decide) (literal_fine _)
  ·exact ⟨literal_fine _, fun x hx => by rw [List.mem_singleton.1 hx]; exact literal_fine _, by simp, by simp, trivial⟩
theorem oneF_gd : ∀ (d : Nat) (s : RS), (oneF d s).2.gd
 | 0, s => leaf_gd (by decide) fine_z
 | d + 1, s => by
  rw [oneF]
  dsimp only
  repeat' split
  ·exact notP_gd (oneF_gd d _) _
  ·exact partsL_gd 9 (by decide) bOr _ (fun s => partsL_gd 8 (by decide) bAnd _ (oneF_gd d) s) _
  ·exact nameP_gd _ _
  ·exact litP_gd _ _
theorem whereQ_gd (s : RS) : (whereQ s).2.gd := by
 unfold whereQ
 split
 ·exact partsL_gd 9 (by decide) bOr _ (fun s => partsL_gd 8 (by decide) bAnd _ (oneF_gd 20) s) _
 ·exact leaf_gd (by decide) fine_z
theorem parseL_gd {T : ByteArray} {q : Qry} (h : parseL T = .ok q) : q.cond.gd := by
 unfold parseL at h
 split at h
 ·cases h
 ·split at h
  ·cases h
  ·cases h
   exact whereQ_gd _
mutual
theorem Prd.gd_e : ∀ p : Prd, p.e.gd ↔ p.gd
 | .mk _ _ _ _ _ _ ks _ => by
  rw [Prd.e, Prd.gd, Prd.gd, Prd.gds_e ks]
  have : Prd.es ks ≠ [] ↔ ks ≠ [] := by cases ks <;> simp [Prd.es]
  rw [this]
theorem Prd.gds_e : ∀ l : List Prd, Prd.gds (Prd.es l) ↔ Prd.gds l
 | [] => Iff.rfl
 | x :: r => by rw [Prd.es, Prd.gds, Prd.gds, Prd.gd_e x, Prd.gds_e r]
end
end Go.Proofs.Ytfambadamebjjaa
namespace Go.Proofs.Ytfambadamebjjaa
open Go.RowKit
set_option linter.unusedVariables false
set_option linter.unusedSimpArgs false
theorem svv_size : (Try.prog.info? 31).map (·.size) = some 3 := by kernel_rfl
def bE : ByteArray := ⟨#[]⟩
def vlZ : Vl := ⟨0, 0, ⟨#[]⟩⟩
mutual
def Prd.g3 : Prd → Prop
 | .mk k _ _ v o _ ks _ => k ≤ 11 ∧ (k = 3 → o = bE) ∧ (k = 4 → v = vlZ) ∧ (k = 10 → ks.length = 1) ∧ Prd.g3s ks
def Prd.g3s : List Prd → Prop
 | [] => True
 | x :: r => x.g3 ∧ Prd.g3s r
end
theorem Prd.g3s_iff (l : List Prd) : Prd.g3s l ↔ ∀ x ∈ l, x.g3 := by
 induction l with
 | nil => simp [Prd.g3s]
 | cons x r ih => simp [Prd.g3s, ih]
theorem Prd.g3s_app (l m : List Prd) : Prd.g3s (l ++ m) ↔ Prd.g3s l ∧ Prd.g3s m := by
 rw [Prd.g3s_iff, Prd.g3s_iff, Prd.g3s_iff]
 simp only [List.mem_append]
 exact ⟨fun h => ⟨fun x hx => h x (.inl hx), fun x hx => h x (.inr hx)⟩, fun h x hx => hx.elim (h.1 x) (h.2 x)⟩
theorem partsF_g3 (word : ByteArray) (pf : RS → RS × Prd) (hp : ∀ s : RS, (pf s).2.g3) : ∀ (f : Nat) (s : RS) (acc : List Prd), Prd.g3s acc → Prd.g3s (partsF word pf f s acc).2
 | 0, _, _, ha => ha
 | f + 1, s, acc, ha => by
  rw [partsF]
  split
  ·exact partsF_g3 word pf hp f _ _ ((Prd.g3s_app _ _).2 ⟨ha, hp _, trivial⟩)
  ·exact ha
theorem leaf_g3 {k : Nat} {c : ByteArray} {r : Nat} {v : Vl} {o : ByteArray} {l : List Vl} {p : Nat} (h1 : k ≤ 9 ∨ k = 11) (h3 : k = 3 → o = bE) (h4 : k = 4 → v = vlZ) : (Prd.mk k c r v o l [] p).g3 := ⟨by omega, h3, h4, fun e => by omega, trivial⟩
theorem joinP_g3 (kind p : Nat) (hk : kind = 8 ∨ kind = 9) (l : List Prd) (h : Prd.g3s l) : (joinP kind p l).g3 := by
 unfold joinP
 split
 ·exact h.1
 ·exact ⟨by omega, fun e => by omega, fun e => by omega, fun e => by omega, h⟩
theorem partsL_g3 (kind : Nat) (hk : kind = 8 ∨ kind = 9) (word : ByteArray) (pf : RS → RS × Prd) (hp : ∀ s : RS, (pf s).2.g3) (s : RS) : (partsL kind word pf s).2.g3 :=
 joinP_g3 kind _ hk _ (partsF_g3 word pf hp _ _ _ ⟨hp s, trivial⟩)
theorem amongL_g3 (col : ByteArray) (pos : Nat) (s : RS) : (amongL col pos s).2.g3 := by
 unfold amongL
 split
 ·exact leaf_g3 (.inl (by decide)) (by simp) (by simp)
 ·exact ⟨by decide, by simp, by simp, by simp, leaf_g3 (.inl (by decide)) (fun _ => rfl) (by simp), leaf_g3 (.inl (by decide)) (fun _ => rfl) (by simp), trivial⟩
theorem notP_g3 {p : Prd} (h : p.g3) (n : Nat) : (notP p n).g3 := ⟨by decide, by simp, by simp, by simp, h, trivial⟩
theorem nameP_g3 (pos : Nat) (s : RS) : (nameP pos s).2.g3 := by
 unfold nameP
 dsimp only
 repeat' split
 all_goals first | exact notP_g3 (amongL_g3 _ _ _) _ | exact amongL_g3 _ _ _ | exact leaf_g3 (.inl (by decide)) (by first | exact fun _ => rfl | simp) (by first | exact fun _ => rfl | simp)
theorem litP_g3 (pos : Nat) (s : RS) : (litP pos s).2.g3 := by
 unfold litP
 dsimp only
 split
 ·unfold truthP
  refine leaf_g3 (.inl (by split <;> decide)) (fun e => ?_) (fun e => ?_)
  ·split at e <;> simp at e
  ·split at e <;> simp at e
 ·split
  ·exact leaf_g3 (.inl (by decide)) (fun _ => rfl) (by simp)
  ·exact leaf_g3 (.inr rfl) (by simp) (by simp)
theorem none_g3 : Prd.none.g3 := leaf_g3 (.inl (by decide)) (by simp) (by simp)
theorem oneF_g3 : ∀ (d : Nat) (s : RS), (oneF d s).2.g3
 | 0, s => none_g3
 | d + 1, s => by
  rw [oneF]
  dsimp only
  repeat' split
  ·exact notP_g3 (oneF_g3 d _) _
  ·exact partsL_g3 9 (.inr rfl) bOr _ (fun s => partsL_g3 8 (.inl rfl) bAnd _ (oneF_g3 d) s) _
  ·exact nameP_g3 _ _
  ·exact litP_g3 _ _
theorem whereQ_g3 (s : RS) : (whereQ s).2.g3 := by
 unfold whereQ
 split
 ·exact partsL_g3 9 (.inr rfl) bOr _ (fun s => partsL_g3 8 (.inl rfl) bAnd _ (oneF_g3 20) s) _
 ·exact none_g3
theorem parseL_g3 {T : ByteArray} {q : Qry} (h : parseL T = .ok q) : q.cond.g3 := by
 unfold parseL at h
 split at h
 ·cases h
 ·split at h
  ·cases h
  ·cases h
   exact whereQ_g3 _
theorem Prd.es_len : ∀ l : List Prd, (Prd.es l).length = l.length
 | [] => rfl
 | x :: r => by rw [Prd.es, List.length_cons, List.length_cons, Prd.es_len r]
mutual
theorem Prd.g3_e : ∀ p : Prd, p.e.g3 ↔ p.g3
 | .mk _ _ _ _ _ _ ks _ => by rw [Prd.e, Prd.g3, Prd.g3, Prd.g3s_e ks, Prd.es_len]
theorem Prd.g3s_e : ∀ l : List Prd, Prd.g3s (Prd.es l) ↔ Prd.g3s l
 | [] => Iff.rfl
 | x :: r => by rw [Prd.es, Prd.g3s, Prd.g3s, Prd.g3_e x, Prd.g3s_e r]
end
def aloneT (l : List Cl) (r : List Vv) (kids : List Int) : Prd → Int
 | .mk k c rel v o ls _ _ => kindT k rel (colV c l r vlZ) (colV o l r v) v ls kids
def Prd.kn : Prd → Nat | .mk _ _ _ _ _ _ ks _ => ks.length
def toldT (l : List Cl) (r : List Vv) : List Prd → List Int → List Int
 | [], st => st
 | p :: ps, st => toldT l r ps (st.take (st.length - p.kn) ++ [aloneT l r (st.drop (st.length - p.kn)) p])
theorem toldT_app (l : List Cl) (r : List Vv) : ∀ (a b : List Prd) (st : List Int), toldT l r (a ++ b) st = toldT l r b (toldT l r a st)
 | [], b, st => rfl
 | p :: a, b, st => by rw [List.cons_append, toldT, toldT, toldT_app l r a b]
theorem trPs_len (l : List Cl) (r : List Vv) : ∀ ks : List Prd, (trPs l r ks).length = ks.length
 | [] => rfl
 | x :: ks => by rw [trPs, List.length_cons, List.length_cons, trPs_len l r ks]
mutual
theorem toldT_alls (l : List Cl) (r : List Vv) : ∀ (p : Prd) (st : List Int), toldT l r p.alls st = st ++ [trP l r p]
 | .mk k c rel v o ls ks _, st => by
  rw [Prd.alls, toldT_app, toldT_allsL l r ks st]
  have hk : (st ++ trPs l r ks).length - (Prd.mk k c rel v o ls ks ‹_›).kn = st.length := by
   show (st ++ trPs l r ks).length - ks.length = _
   rw [List.length_append, trPs_len]; omega
  rw [toldT, toldT, hk, List.take_left, List.drop_left]
  rfl
theorem toldT_allsL (l : List Cl) (r : List Vv) : ∀ (ks : List Prd) (st : List Int), toldT l r (Prd.allsL ks) st = st ++ trPs l r ks
 | [], st => by simp [Prd.allsL, toldT, trPs]
 | x :: ks, st => by
  rw [Prd.allsL, toldT_app, toldT_alls l r x st, toldT_allsL l r ks, trPs, List.append_assoc]
  rfl
end
def roomT : List Prd → Nat → Prop
 | [], _ => True
 | p :: ps, n => p.kn ≤ n ∧ roomT ps (n - p.kn + 1)
def cntT : List Prd → Nat → Nat
 | [], n => n
 | p :: ps, n => cntT ps (n - p.kn + 1)
theorem cntT_app : ∀ (a b : List Prd) (n : Nat), cntT (a ++ b) n = cntT b (cntT a n)
 | [], b, n => rfl
 | p :: a, b, n => by rw [List.cons_append, cntT, cntT, cntT_app a b]
theorem roomT_app : ∀ (a b : List Prd) (n : Nat), roomT (a ++ b) n ↔ roomT a n ∧ roomT b (cntT a n)
 | [], b, n => by simp [roomT, cntT]
 | p :: a, b, n => by rw [List.cons_append, roomT, roomT, cntT, roomT_app a b, and_assoc]
mutual
theorem cntT_alls : ∀ (p : Prd) (n : Nat), cntT p.alls n = n + 1
 | .mk k c rel v o ls ks _, n => by
  rw [Prd.alls, cntT_app, cntT_allsL ks n, cntT, cntT]
  show n + ks.length - ks.length + 1 = n + 1
  omega
theorem cntT_allsL : ∀ (ks : List Prd) (n : Nat), cntT (Prd.allsL ks) n = n + ks.length
 | [], n => rfl
 | x :: ks, n => by rw [Prd.allsL, cntT_app, cntT_alls x n, cntT_allsL ks, List.length_cons]; omega
end
mutual
theorem roomT_alls : ∀ (p : Prd) (n : Nat), roomT p.alls n
 | .mk k c rel v o ls ks _, n => by
  rw [Prd.alls, roomT_app, cntT_allsL ks n]
  refine ⟨roomT_allsL ks n, ?_, trivial⟩
  show ks.length ≤ n + ks.length
  omega
theorem roomT_allsL : ∀ (ks : List Prd) (n : Nat), roomT (Prd.allsL ks) n
 | [], n => trivial
 | x :: ks, n => by rw [Prd.allsL, roomT_app]; exact ⟨roomT_alls x n, roomT_allsL ks _⟩
end
theorem toldT_len (l : List Cl) (r : List Vv) : ∀ (ps : List Prd) (st : List Int), (toldT l r ps st).length = cntT ps st.length
 | [], st => rfl
 | p :: ps, st => by
  rw [toldT, cntT, toldT_len l r ps, List.length_append, List.length_take]
  congr 1
  simp
theorem colV_hit {M : ByteArray} {l : List Cl} {r : List Vv} {d : Vl} (h : colN M l < l.length) : colV M l r d = vlV (r.getD (colN M l) default) := if_pos h
theorem colV_no {M : ByteArray} {l : List Cl} {r : List Vv} {d : Vl} (h : ¬ colN M l < l.length) : colV M l r d = d := if_neg h
theorem colV_fine {M : ByteArray} {l : List Cl} {r : List Vv} {d : Vl} (hr : ∀ v ∈ r, (vlV v).fine) (hl : r.length = l.length) (hd : d.fine) : (colV M l r d).fine := by
 unfold colV
 split
 ·rename_i h
  refine hr _ ?_
  rw [List.getD, List.getElem?_eq_getElem (by omega)]
  exact List.getElem_mem _
 ·exact hd
theorem Win.ints {w : World} {a : Option Addr} {cap n : Nat} {l : List Int} (h : Win 1 w a cap n (l.map (Value.int .i64))) : IntsAt .i64 w a l := by
 have hn : l.length = n := by have := h.len; simpa using this
 refine ⟨by have := h.le; have := h.max; unfold maxLen at this; omega, ?_⟩
 rcases h.mem with h0 | ⟨g, off, e, hc, _⟩
 ·exact .inl (List.eq_nil_of_length_eq_zero (by have := h.le; omega))
 ·refine .inr ⟨g, off, e, h.lt g (by rw [e, bk_some]), fun i hi => hc i _ ?_⟩
  rw [List.getElem?_map, List.getElem?_eq_getElem hi, List.getD, List.getElem?_eq_getElem hi]; rfl
theorem Vl.fine.len {x : Vl} (h : x.fine) : x.s.size ≤ maxLen := by have := h.2; unfold maxLen; omega
theorem colN_is (M : ByteArray) : ∀ l : List Cl, colN M l < l.length → (l.getD (colN M l) default).n = M
 | [], h => by simp at h
 | c :: r, h => by
  by_cases e : c.n = M
  ·rw [show colN M (c :: r) = 0 by show (if c.n = M then 0 else colN M r + 1) = 0; rw [if_pos e]]; exact e
  ·have e1 : colN M (c :: r) = colN M r + 1 := by show (if c.n = M then 0 else colN M r + 1) = _; rw [if_neg e]
   rw [e1] at h ⊢
   rw [List.getD_cons_succ]
   exact colN_is M r (by simpa using h)
theorem kdS_some {M : ByteArray} {l : List Cl} (h : kdS M l ≠ none) : colN M l < l.length := by
 unfold kdS at h
 by_cases e : colN M l < l.length
 ·exact e
 ·rw [if_neg e] at h; exact absurd rfl h
mutual
def Prd.nod (cs : List Cl) : Prd → Prop
 | .mk k c _ _ o _ ks _ => k ≤ 11 ∧ (k = 3 → ¬ colN o cs < cs.length) ∧ (3 ≤ k → k ≤ 7 → c.size ≤ maxLen) ∧ (k = 4 → colN o cs < cs.length ∧ o.size ≤ maxLen) ∧ (k = 10 → ks.length = 1) ∧ Prd.nods cs ks
def Prd.nods (cs : List Cl) : List Prd → Prop
 | [] => True
 | x :: r => x.nod cs ∧ Prd.nods cs r
end
theorem name_len {M : ByteArray} {cs : List Cl} (hcs : ∀ c ∈ cs, c.n ≠ bE ∧ c.n.size ≤ maxLen) (h : colN M cs < cs.length) : M.size ≤ maxLen := by
 rw [← colN_is M cs h]
 refine (hcs _ ?_).2
 rw [List.getD, List.getElem?_eq_getElem h]
 exact List.getElem_mem _
theorem name_E {cs : List Cl} (hcs : ∀ c ∈ cs, c.n ≠ bE ∧ c.n.size ≤ maxLen) : ¬ colN bE cs < cs.length := fun h => by
 refine (hcs (cs.getD (colN bE cs) default) ?_).1 (colN_is bE cs h)
 rw [List.getD, List.getElem?_eq_getElem h]
 exact List.getElem_mem _
theorem leafC_col {l : List Cl} {k : Nat} {c o : ByteArray} {v : Vl} {ls : List Vl} (h : leafC l k c v o ls = 0) (h3 : 3 ≤ k) (h7 : k ≤ 7) : colN c l < l.length ∧ (k = 4 → colN o l < l.length) := by
 unfold leafC at h
 rw [if_neg (by omega), if_neg (by omega)] at h
 have hk : kdS c l ≠ none := fun e => by rw [e] at h; cases h
 refine ⟨kdS_some hk, fun e => ?_⟩
 subst e
 cases hc : kdS c l with
 | none => exact absurd hc hk
 | some kk =>
  rw [hc] at h
  have h2 : othC kk (kdS o l) = 0 := h
  refine kdS_some (fun e => ?_)
  rw [e] at h2; cases h2
mutual
theorem predC_nod {cs : List Cl} (hcs : ∀ c ∈ cs, c.n ≠ bE ∧ c.n.size ≤ maxLen) : ∀ p : Prd, predC cs p = 0 → p.g3 → p.nod cs
 | .mk k c rel v o ls ks _, h, g => by
  rw [predC] at h
  by_cases e : predCs cs ks = 0
  ·rw [if_neg (by simp [e])] at h
   refine ⟨g.1, fun e3 => by rw [g.2.1 e3]; exact name_E hcs, fun h3 h7 => name_len hcs (leafC_col h h3 h7).1, fun e4 => ?_, g.2.2.2.1, predCs_nods hcs ks e g.2.2.2.2⟩
   have := (leafC_col h (by omega) (by omega)).2 e4
   exact ⟨this, name_len hcs this⟩
  ·rw [if_pos e] at h
   exact absurd h e
theorem predCs_nods {cs : List Cl} (hcs : ∀ c ∈ cs, c.n ≠ bE ∧ c.n.size ≤ maxLen) : ∀ ks : List Prd, predCs cs ks = 0 → Prd.g3s ks → Prd.nods cs ks
 | [], _, _ => trivial
 | x :: r, h, g => by
  rw [predCs] at h
  by_cases e : predC cs x = 0
  ·rw [if_neg (by simp [e])] at h
   exact ⟨predC_nod hcs x e g.1, predCs_nods hcs r h g.2⟩
  ·rw [if_pos e] at h
   exact absurd h e
end
mutual
theorem Prd.nod_alls (cs : List Cl) : ∀ p : Prd, p.nod cs → ∀ x ∈ p.alls, x.nod cs
 | .mk k c rel v o ls ks q, h, x, hx => by
  rw [Prd.alls] at hx
  rcases List.mem_append.1 hx with hx | hx
  ·exact Prd.nods_allsL cs ks h.2.2.2.2.2 x hx
  ·rw [List.mem_singleton.1 hx]; exact h
theorem Prd.nods_allsL (cs : List Cl) : ∀ ks : List Prd, Prd.nods cs ks → ∀ x ∈ Prd.allsL ks, x.nod cs
 | [], _, x, hx => by simp [Prd.allsL] at hx
 | p :: ks, h, x, hx => by
  rw [Prd.allsL] at hx
  rcases List.mem_append.1 hx with hx | hx
  ·exact Prd.nod_alls cs p h.1 x hx
  ·exact Prd.nods_allsL cs ks h.2 x hx
end
end Go.Proofs.Ytfambadamebjjaa
namespace Go.Proofs.Ytfambadamebjjaa
open Go.RowKit
set_option linter.unusedVariables false
set_option linter.unusedSimpArgs false
theorem VvAt.row {B : Nat} {w : World} {a : Option Addr} {r : List Vv} (h : VvAt B w a r) (hB : B ≤ w.heap.size) (hf : ∀ v ∈ r, (vlV v).fine) : RowAt w a (r.map vlV) := by
 have hd : ∀ i, (r.map vlV).getD i default = vlV (r.getD i default) := fun i => by
  rw [List.getD_eq_getElem?_getD, List.getD_eq_getElem?_getD, List.getElem?_map]
  cases r[i]? <;> rfl
 refine ⟨by rw [List.length_map]; exact h.1, fun x hx => ?_, ?_⟩
 ·obtain ⟨v, hv, rfl⟩ := List.mem_map.1 hx
  exact (hf v hv).len
 ·rcases h.2 with rfl | ⟨b, off, e, hlt, hc⟩
  ·exact .inl rfl
  ·refine .inr ⟨b, off, e, by omega, fun i hi => ?_⟩
   rw [hd]
   exact hc i (by simpa using hi)
theorem sv_size : (Try.prog.info? 72).map (·.size) = some 2 := by kernel_rfl
set_option maxRecDepth 100000 in
theorem nth_any (a : Option Addr) (cap : Nat) (l : List Vl) (k : Nat) (w : World) (h : RowAt w a l) :
  Calls Try.prog 67 #[.slice a l.length cap, .int .i64 k] w fun e w' => e = .returned (.agg #[.int .i64 (l.getD k default).k, .int .i64 (l.getD k default).n, .string (l.getD k default).s]) ∧ w.grownBy w' none := by
 have HA := Lib.hid (heap_alloc_new w (.cells #[.int .i64 0, .int .i64 0, .string ⟨#[]⟩] 31))
 have GA := Lib.hid (World.grownBy_alloc w (.cells #[.int .i64 0, .int .i64 0, .string ⟨#[]⟩] 31) none)
 obtain ⟨⟨a0, a1, a2⟩, a3, a4, a5⟩ := three_of HA.out
 have hmax := h.1
 by_cases hlt : k < l.length
 ·obtain ⟨b, off, rfl, hb, c0, c1, c2⟩ := h.at hlt
  have d0 := GA.out.cell c0 (by simp)
  have d1 := GA.out.cell c1 (by simp)
  have d2 := GA.out.cell c2 (by simp)
  generalize l.getD k default = x at *
  obtain ⟨xk, xn, xs⟩ := x
  dsimp only at *
  generalize l.length = n at *
  have i0 : (0 : Int) ≤ k := by omega
  have i1 : (k : Int) < n := by omega
  have i2 : ¬ (n : Int) ≤ k := by omega
  clear h c0 c1 c2 hb
  go_enter Try.func67, Try.ntmps67
  go_wp2_with fail
  exact bodyPost_ret (results_cell_row rfl _ _ w.heap.size 31 #[.int .i64 xk, .int .i64 xn, .string xs] (0, 0) _ rfl (heap_alloc_new w _) Try.underlying31 rfl (by kernel_rfl)) rfl ⟨rfl, World.grownBy_alloc w _ none⟩
 ·have e : l.getD k default = ⟨0, 0, ⟨#[]⟩⟩ := by rw [List.getD_eq_getElem?_getD, List.getElem?_eq_none (by omega)]; rfl
  rw [e]
  dsimp only
  generalize l.length = n at *
  have i2 : (n : Int) ≤ k := by omega
  clear h hlt e
  go_enter Try.func67, Try.ntmps67
  go_wp2_with fail
  exact bodyPost_ret (results_cell_row rfl _ _ w.heap.size 31 #[.int .i64 0, .int .i64 0, .string ⟨#[]⟩] (0, 0) _ rfl (heap_alloc_new w _) Try.underlying31 rfl (by kernel_rfl)) rfl ⟨rfl, World.grownBy_alloc w _ none⟩
set_option maxRecDepth 100000 in
theorem colval_any (b : Nat) (cs : List Cl) (a : Option Addr) (cap : Nat) (rv : List Vv) (M : ByteArray) (w : World) (hM : MapC w b cs) (h : VvAt w.heap.size w a rv) (hf : ∀ v ∈ rv, (vlV v).fine) (hlen : rv.length = cs.length) (hs : M.size ≤ maxLen) :
  Calls Try.prog 69 #[.map (some b), .slice a rv.length cap, .string M] w fun e w' => e = .returned (.agg #[.int .i64 (colV M cs rv vlZ).k, .int .i64 (colV M cs rv vlZ).n, .string (colV M cs rv vlZ).s]) ∧ w.grownBy w' none := by
 have HA := Lib.hid (heap_alloc_new w (.cells #[.int .i64 0, .int .i64 0, .string ⟨#[]⟩] 31))
 have GA := Lib.hid (World.grownBy_alloc w (.cells #[.int .i64 0, .int .i64 0, .string ⟨#[]⟩] 31) none)
 obtain ⟨⟨a0, a1, a2⟩, a3, a4, a5⟩ := three_of HA.out
 obtain ⟨nn, D, hown, hsp⟩ := hM.kept GA.out
 obtain ⟨hhas, hat0⟩ := hsp M
 have hkey := svKey_of hs
 have HN := Lib.hid (fun (k : Nat) W (hW : w.grownBy W none) => nth_any a cap (rv.map vlV) k W (((h.keep hW (by simp)).mono1 hW.size).row (Nat.le_refl _) hf))
 rw [List.length_map] at HN
 by_cases hc : colN M cs < cs.length
 ·rw [decide_eq_true hc] at hhas
  have hv : colV M cs rv vlZ = (rv.map vlV).getD (colN M cs) default := by
   rw [colV_hit hc, List.getD_eq_getElem?_getD, List.getD_eq_getElem?_getD, List.getElem?_map]
   rw [List.getElem?_eq_getElem (by omega)]; rfl
  rw [hv]
  have hat1 := hat0 hc (.lit (.int .i64 0))
  clear hv hat0 hc hf h hM hsp
  generalize hN : colN M cs = N at *
  generalize rv.length = n at *
  have HH := Lib.hid hhas
  have HO := Lib.hid hown
  have HK := Lib.hid hkey
  have HT := Lib.hid hat1
  obtain ⟨⟨xk, xn, xs⟩, hx⟩ : ∃ x, x = (rv.map vlV).getD N default := ⟨_, rfl⟩
  have HN1 := Lib.hid (HN.out N)
  rw [← hx] at HN1 ⊢
  dsimp only at HN1 ⊢
  clear hhas hown hkey hat1 hN hlen hs hx HN
  go_enter Try.func69, Try.ntmps69
  go_wp2_with (first
   | (at_lookup; refine wpList_lookup_own_ok_int _ rfl _ _ 69 rfl 9 3 .i64 sv_key Try.underlying69 Try.underlying3 (sv_zero _) b nn D rfl HO.out _ _ rfl HK.out ?_; intro c hat hwc; rw [HH.out]; obtain rfl : c = (N : Int) := by (rw [HT.out] at hat; injection hat with hat; injection hat with _ hat; exact hat.symm))
   | fail)
  refine (HN1.out _ GA.out).mono ?_
  rintro e w2 ⟨rfl, hg⟩
  have HA2 := Lib.hid (blkD hg HA.out)
  have G2 := Lib.hid (GA.out.trans hg)
  obtain ⟨⟨d0, d1, d2⟩, d3, d4, d5⟩ := three_of HA2.out
  clear a0 a1 a2 a3 a4 a5 hg
  go_wp2_with fail
  exact bodyPost_ret (results_cell_row rfl _ _ w.heap.size 31 #[.int .i64 xk, .int .i64 xn, .string xs] (0, 0) _ rfl (set3 HA2.out) Try.underlying31 rfl (by kernel_rfl)) rfl ⟨rfl, grown_set3 G2.out (Nat.le_refl _) _ _ _⟩
 ·rw [decide_eq_false hc] at hhas
  have hv : colV M cs rv vlZ = ⟨0, 0, ⟨#[]⟩⟩ := colV_no hc
  rw [hv]
  dsimp only
  clear hv hat0 hc hf h hM hsp
  generalize rv.length = n at *
  have HH := Lib.hid hhas
  have HO := Lib.hid hown
  have HK := Lib.hid hkey
  clear hhas hown hkey hlen hs
  go_enter Try.func69, Try.ntmps69
  go_wp2_with (first
   | (at_lookup; refine wpList_lookup_own_ok_int _ rfl _ _ 69 rfl 9 3 .i64 sv_key Try.underlying69 Try.underlying3 (sv_zero _) b nn D rfl HO.out _ _ rfl HK.out ?_; intro c hat hwc; rw [HH.out])
   | fail)
  exact bodyPost_ret (results_cell_row rfl _ _ w.heap.size 31 #[.int .i64 0, .int .i64 0, .string ⟨#[]⟩] (0, 0) _ rfl (heap_alloc_new w _) Try.underlying31 rfl (by kernel_rfl)) rfl ⟨rfl, World.grownBy_alloc w _ none⟩
set_option maxRecDepth 100000 in
theorem compared_any (r : Int) (x y : Vl) (w : World) :
  Calls Try.prog 66 #[.int .i64 r, .agg #[.int .i64 x.k, .int .i64 x.n, .string x.s], .agg #[.int .i64 y.k, .int .i64 y.n, .string y.s]] w fun e w' => e = .returned (.int .i64 (ofT r x y)) ∧ w.grownBy w' none := by
 have HO := Lib.hid (of_any r x y)
 have g1 := gq_al (gq_al (grown_reflT w none) (.cells #[.int .i64 x.k, .int .i64 x.n, .string x.s] 31)) (.cells #[.int .i64 y.k, .int .i64 y.n, .string y.s] 31)
 have A1 := Lib.hid (alc2a w (.cells #[.int .i64 x.k, .int .i64 x.n, .string x.s] 31) (.cells #[.int .i64 y.k, .int .i64 y.n, .string y.s] 31))
 have A2 := Lib.hid (alc2b w (.cells #[.int .i64 x.k, .int .i64 x.n, .string x.s] 31) (.cells #[.int .i64 y.k, .int .i64 y.n, .string y.s] 31))
 obtain ⟨⟨a0, a1, a2⟩, a3, a4, a5⟩ := three_of A1.out
 obtain ⟨⟨b0, b1, b2⟩, b3, b4, b5⟩ := three_of A2.out
 have G1 := Lib.hid g1
 generalize relE r = re at *
 generalize ofT r x y = t at *
 clear g1
 obtain ⟨xk, xn, xs⟩ := x
 obtain ⟨yk, yn, ys⟩ := y
 dsimp only at *
 go_enter Try.func66, Try.ntmps66
 go_wp2_with fail
 refine (HO.out _).mono ?_
 rintro e w2 ⟨rfl, hb⟩
 have G2 := Lib.hid (G1.out.trans (grown_belowX hb none))
 clear hb
 go_wp2_with fail
 go_ret
 exact ⟨rfl, G2.out⟩
theorem truthOf_any (b : Bool) (w : World) : Calls Try.prog 82 #[.bool b] w fun e w' => e = .returned (.int .i64 (boolT b)) ∧ w = w' := by
 cases b <;>
 ·go_enter Try.func82, Try.ntmps82
  go_wp2_with fail
  go_ret
  exact ⟨rfl, rfl⟩
set_option maxRecDepth 100000 in
set_option maxHeartbeats 12800000 in
theorem leaf_any (b : Nat) (sa : Ptr) (sn sc : Nat) (cs : List Cl) (ra : Option Addr) (rcap : Nat) (rv : List Vv) (S : Nat → Prop) (k1 : Nat) (c1 : ByteArray) (r1 : Nat) (vk1 vn1 : Int) (vs1 o1 : ByteArray) (la1 : Ptr) (lc1 : Nat) (l1 : List Vl) (ka1 : Ptr) (kc1 n : Nat) (p1 : Nat) (x : Vl) (w : World) (hM : MapC w b cs) (hV : VvAt w.heap.size w ra rv) (hf : ∀ v ∈ rv, (vlV v).fine) (hlen : rv.length = cs.length) (hR : RwS S w la1 l1) (h3 : 3 ≤ k1) (h7 : k1 ≤ 7) (hn3 : k1 = 3 → ¬ colN o1 cs < cs.length) (hn4 : k1 = 4 → colN o1 cs < cs.length ∧ o1.size ≤ maxLen) (kids : List Int) :
  Calls Try.prog 68 #[.agg #[.map (some b), .slice sa sn sc], .agg #[.int .i64 (k1 : Nat), .string c1, .int .i64 (r1 : Nat), .int .i64 vk1, .int .i64 vn1, .string vs1, .string o1, .slice la1 l1.length lc1, .slice ka1 n kc1, .int .i64 (p1 : Nat)], .agg #[.int .i64 x.k, .int .i64 x.n, .string x.s], .slice ra rv.length rcap] w fun e w' => e = .returned (.int .i64 (kindT k1 r1 x (colV o1 cs rv ⟨vk1, vn1, vs1⟩) ⟨vk1, vn1, vs1⟩ l1 kids)) ∧ w.grownBy w' none := by
 obtain ⟨res, hres⟩ : ∃ res, res = kindT k1 r1 x (colV o1 cs rv ⟨vk1, vn1, vs1⟩) ⟨vk1, vn1, vs1⟩ l1 kids := ⟨_, rfl⟩
 rw [← hres]
 have HRes := Lib.hid hres
 have HN3 := Lib.hid hn3
 have HN4 := Lib.hid hn4
 have HCm := Lib.hid (fun (x y : Vl) => compared_any (r1 : Int) x y)
 have HVa := Lib.hid (fun (h : o1.size ≤ maxLen) W (hW : w.grownBy W none) => colval_any b cs ra rcap rv o1 W (hM.kept hW) ((hV.keep hW (by simp)).mono1 hW.size) hf hlen h)
 have HIn := Lib.hid (fun W (hW : w.grownBy W none) => in_any x la1 lc1 l1 W (hR.keep (w' := W) (.of hW)).row)
 have HTr := Lib.hid truthOf_any
 clear hres hn3 hn4 hM hV hf hR
 generalize hln : l1.length = ln at *
 generalize hrn : rv.length = rn at *
 clear hln hrn hlen
 obtain ⟨xk, xn, xs⟩ := x
 dsimp only at *
 have g1 := gq_al (gq_al (gq_al (grown_reflT w none) (.cells #[.map (some b), .slice sa sn sc] 72)) (.cells #[.int .i64 (k1 : Nat), .string c1, .int .i64 (r1 : Nat), .int .i64 vk1, .int .i64 vn1, .string vs1, .string o1, .slice la1 ln lc1, .slice ka1 n kc1, .int .i64 (p1 : Nat)] 34)) (.cells #[.int .i64 xk, .int .i64 xn, .string xs] 31)
 have TS := Lib.hid (alc3a w (.cells #[.map (some b), .slice sa sn sc] 72) (.cells #[.int .i64 (k1 : Nat), .string c1, .int .i64 (r1 : Nat), .int .i64 vk1, .int .i64 vn1, .string vs1, .string o1, .slice la1 ln lc1, .slice ka1 n kc1, .int .i64 (p1 : Nat)] 34) (.cells #[.int .i64 xk, .int .i64 xn, .string xs] 31))
 have TP := Lib.hid (alc3b w (.cells #[.map (some b), .slice sa sn sc] 72) (.cells #[.int .i64 (k1 : Nat), .string c1, .int .i64 (r1 : Nat), .int .i64 vk1, .int .i64 vn1, .string vs1, .string o1, .slice la1 ln lc1, .slice ka1 n kc1, .int .i64 (p1 : Nat)] 34) (.cells #[.int .i64 xk, .int .i64 xn, .string xs] 31))
 have TX := Lib.hid (alc3c w (.cells #[.map (some b), .slice sa sn sc] 72) (.cells #[.int .i64 (k1 : Nat), .string c1, .int .i64 (r1 : Nat), .int .i64 vk1, .int .i64 vn1, .string vs1, .string o1, .slice la1 ln lc1, .slice ka1 n kc1, .int .i64 (p1 : Nat)] 34) (.cells #[.int .i64 xk, .int .i64 xn, .string xs] 31))
 have G1 := Lib.hid g1
 clear g1
 go_enter Try.func68, Try.ntmps68
 go_upto_region 1 with fail
 change Code.wp _ _ _ _ (((w.alloc (.cells #[.map (some b), .slice sa sn sc] 72)).alloc (.cells #[.int .i64 (k1 : Nat), .string c1, .int .i64 (r1 : Nat), .int .i64 vk1, .int .i64 vn1, .string vs1, .string o1, .slice la1 ln lc1, .slice ka1 n kc1, .int .i64 (p1 : Nat)] 34)).alloc (.cells #[.int .i64 xk, .int .i64 xn, .string xs] 31))
 generalize ((w.alloc (.cells #[.map (some b), .slice sa sn sc] 72)).alloc (.cells #[.int .i64 (k1 : Nat), .string c1, .int .i64 (r1 : Nat), .int .i64 vk1, .int .i64 vn1, .string vs1, .string o1, .slice la1 ln lc1, .slice ka1 n kc1, .int .i64 (p1 : Nat)] 34)).alloc (.cells #[.int .i64 xk, .int .i64 xn, .string xs] 31) = w1 at *
 obtain ⟨⟨p0, p1x, p2, p3, p4⟩, p5, p6, p7, p8, p9⟩ := ten_of TP.out
 obtain ⟨⟨x0, x1, x2⟩, x3, x4, x5⟩ := three_of TX.out
 go_upto_region 2 with fail
 have hk : k1 = 3 ∨ k1 = 4 ∨ k1 = 5 ∨ k1 = 6 ∨ k1 = 7 := by omega
 rcases hk with rfl | rfl | rfl | rfl | rfl
 ·have hr : res = ofT r1 ⟨xk, xn, xs⟩ ⟨vk1, vn1, vs1⟩ := by rw [HRes.out, colV_no (HN3.out rfl)]; rfl
  subst hr
  clear h3 h7 HRes
  have HC1 := Lib.hid (HCm.out ⟨xk, xn, xs⟩ ⟨vk1, vn1, vs1⟩)
  dsimp only at HC1
  go_wp2_with fail
  refine (HC1.out _).mono ?_
  rintro e w2 ⟨rfl, hg⟩
  have G2 := Lib.hid (G1.out.trans hg)
  clear hg
  go_wp2_with fail
  go_ret
  exact ⟨rfl, G2.out⟩
 ·have hr : res = ofT r1 ⟨xk, xn, xs⟩ (colV o1 cs rv vlZ) := by rw [HRes.out, colV_hit (HN4.out rfl).1, colV_hit (HN4.out rfl).1]; rfl
  have HVb := Lib.hid (HVa.out (HN4.out rfl).2)
  have HC1 := Lib.hid (HCm.out ⟨xk, xn, xs⟩ (colV o1 cs rv vlZ))
  generalize colV o1 cs rv vlZ = Y at *
  obtain ⟨yk, yn, ys⟩ := Y
  dsimp only at *
  subst hr
  have HVc := Lib.hid (fun W (hW : w1.grownBy W none) => HVb.out W (G1.out.trans hW))
  clear h3 h7 HRes HVb
  go_upto_region 5 with fail
  clear p0 p1x p2 p3 p4 p5 p6 p7 p8 p9
  clear x0 x1 x2 x3 x4 x5
  refine wp_region_held_drew (S := (fun W => Hid (w1.grownBy W none))) (by kernel_rfl) (Lib.hid (grown_drewT (grown_reflX w1 none))) (fun hHeld => ?_)
  refine TKA (i := 2) (v := .agg #[.int .i64 xk, .int .i64 xn, .string xs]) rfl (yieldsIf_load_mid (by rfl) _ _ rfl (w.heap.size + 1 + 1) 0 rfl _ _ (fun W hS => range_rowD (blkD hS.out TX.out)) Try.underlying31 rfl svv_size) ?_
  simp only [Act.put, List.getElem_toArray, List.getElem_cons_succ, List.getElem_cons_zero, List.size_toArray, List.length_cons, List.length_nil, Nat.reduceAdd, Array.replicate, List.replicate, List.setIfInBounds_toArray, List.set_cons_zero, List.set_cons_succ]
  refine TKB (i := 0) (v := ?vaz) rfl ?yaz ?raz
  case yaz => (intro w hSw; (try dsimp only at hSw); go_simp; try with_reducible rfl)
  simp only [Act.put, List.getElem_toArray, List.getElem_cons_zero, List.setIfInBounds_toArray, List.set_cons_zero, List.set_cons_succ]
  refine TKB (i := 1) (v := ?vbz) rfl ?ybz ?rbz
  case ybz => (intro w hSw; obtain ⟨⟨p0, p1x, p2, p3, p4⟩, p5, p6, p7, p8, p9⟩ := ten_of (blkD hSw.out TP.out); clear hSw; go_simp; try with_reducible rfl)
  simp only [Act.put, List.getElem_toArray, List.getElem_cons_succ, List.getElem_cons_zero, List.setIfInBounds_toArray, List.set_cons_zero, List.set_cons_succ]
  refine TKB (i := 3) (v := ?vcz) rfl ?ycz ?rcz
  case ycz => (intro w hSw; (try dsimp only at hSw); go_simp; try with_reducible rfl)
  simp only [Act.put, List.getElem_toArray, List.getElem_cons_succ, List.getElem_cons_zero, List.setIfInBounds_toArray, List.set_cons_zero, List.set_cons_succ]
  refine TKB (i := 4) (v := ?vdz) rfl ?ydz ?rdz
  case ydz => (intro w hSw; have q4 := cell_of_row _ _ 0 _ _ _ (blkD hSw.out TS.out); simp only [List.getElem?_toArray, List.getElem?_cons_zero] at q4; clear hSw; go_simp; try with_reducible rfl)
  simp only [Act.put, List.getElem_toArray, List.getElem_cons_succ, List.getElem_cons_zero, List.setIfInBounds_toArray, List.set_cons_zero, List.set_cons_succ]
  refine TKB (i := 5) (v := ?vez) rfl ?yez ?rez
  case yez => (intro w hSw; (try dsimp only at hSw); go_simp; try with_reducible rfl)
  simp only [Act.put, List.getElem_toArray, List.getElem_cons_succ, List.getElem_cons_zero, List.setIfInBounds_toArray, List.set_cons_zero, List.set_cons_succ]
  refine TKB (i := 6) (v := ?vfz) rfl ?yfz ?rfz
  case yfz => (intro w hSw; (try dsimp only at hSw); go_simp; try with_reducible rfl)
  simp only [Act.put, List.getElem_toArray, List.getElem_cons_succ, List.getElem_cons_zero, List.setIfInBounds_toArray, List.set_cons_zero, List.set_cons_succ]
  refine TKB (i := 7) (v := ?vgz) rfl ?ygz ?rgz
  case ygz => (intro w hSw; obtain ⟨⟨p0, p1x, p2, p3, p4⟩, p5, p6, p7, p8, p9⟩ := ten_of (blkD hSw.out TP.out); clear hSw; go_simp; try with_reducible rfl)
  simp only [Act.put, List.getElem_toArray, List.getElem_cons_succ, List.getElem_cons_zero, List.setIfInBounds_toArray, List.set_cons_zero, List.set_cons_succ]
  refine RD1 (i := 8) rfl (fun K' hK => ?_)
  go_simp
  go_at_call 69
  refine (HVc.out _ (grown_drewT (grown_reflX w1 none))).mono ?_
  rintro e w5 ⟨rfl, hg⟩
  have Z5 : Hid (w1.grownBy w5 none) := Lib.hid ((grown_drewT (grown_reflX w1 none)).trans hg)
  clear hg
  refine hK.out _ _ Z5 (fun hHeld => ?_)
  clear hK K'
  simp only [List.setIfInBounds_toArray, List.set_cons_zero, List.set_cons_succ]
  refine RD1 (i := 9) rfl (fun K' hK => ?_)
  go_simp
  go_at_call 66
  refine (HC1.out _).mono ?_
  rintro e w6 ⟨rfl, hg⟩
  have Z6 : Hid (w1.grownBy w6 none) := Lib.hid (Z5.out.trans hg)
  clear hg
  refine hK.out _ _ Z6 (fun hHeld => ?_)
  clear hK K'
  simp only [List.setIfInBounds_toArray, List.set_cons_zero, List.set_cons_succ]
  refine TKB (i := 10) (v := ?vhz) rfl ?yhz ?rhz
  case yhz => (intro w hSw; (try dsimp only at hSw); go_simp; try with_reducible rfl)
  simp only [Act.put, List.getElem_toArray, List.getElem_cons_succ, List.getElem_cons_zero, List.setIfInBounds_toArray, List.set_cons_zero, List.set_cons_succ]
  refine wpAnyH_done (by kernel_rfl) ?_ _
  have G6 := Lib.hid (G1.out.trans Z6.out)
  go_wp2_with fail
  go_ret
  exact ⟨rfl, G6.out⟩
 ·have hr : res = inT ⟨xk, xn, xs⟩ l1 := by rw [HRes.out]; rfl
  subst hr
  clear h3 h7 HRes
  go_wp2_with fail
  refine (HIn.out _ G1.out).mono ?_
  rintro e w2 ⟨rfl, hg⟩
  have G2 := Lib.hid (G1.out.trans (grown_belowX hg none))
  clear hg
  go_wp2_with fail
  go_ret
  exact ⟨rfl, G2.out⟩
 ·have hr : res = boolT (xk == 0) := by rw [HRes.out]; rfl
  subst hr
  clear h3 h7 HRes
  go_wp2_with fail
  refine (HTr.out _ _).mono ?_
  rintro e w2 ⟨rfl, rfl⟩
  go_wp2_with fail
  go_ret
  exact ⟨rfl, G1.out⟩
 ·have hr : res = boolT (xk != 0) := by rw [HRes.out]; rfl
  subst hr
  clear h3 h7 HRes
  go_wp2_with fail
  refine (HTr.out _ _).mono ?_
  rintro e w2 ⟨rfl, rfl⟩
  go_wp2_with fail
  go_ret
  exact ⟨rfl, G1.out⟩
end Go.Proofs.Ytfambadamebjjaa
