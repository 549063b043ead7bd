/- The reader's errors have numbers. Predicates but for places, compared one level after the other: the mathematics. The reader in memory, and its small functions: comes, pass, wrong, took, need, end, named, name. -/
import Derived.Test.YtjaclmoobfeikaaGreatDoorZl12
import Derived.Test.YtjaclmoobfeikaaGreatDoorZl21
import Derived.Test.YtjaclmoobfeikaaGreatDoorZl15
import Derived.Test.YtjaclmoobfeikaaGreatDoorZl16
import Derived.Test.YtjaclmoobfeikaaGreatDoorZl02
namespace Go.Proofs.YtjaclmoobfeikaaGreatDoor

def RS.nz (s : RS) : Prop := ∀ p, s.err = some p → p.2 ≠ 0
theorem RS.nz.wrong {s : RS} (h : s.nz) {c : Nat} (hc : c ≠ 0) : (s.wrong c).nz := by
  intro p hp
  simp only [RS.wrong, Option.some.injEq] at hp
  cases he : s.err with
  | none => rw [he] at hp; subst hp; exact hc
  | some q => rw [he] at hp; subst hp; exact h q he
theorem RS.nz.pass {s : RS} (h : s.nz) : s.pass.nz := h
theorem RS.nz.need {s : RS} (h : s.nz) (t : ByteArray) : (s.need t).nz := by
  unfold RS.need; split
  · exact h.pass
  · exact h.wrong (by decide)
theorem RS.nz.fin {s : RS} (h : s.nz) : s.fin.nz := by
  unfold RS.fin; split
  · exact h
  · exact h.wrong (by decide)
theorem RS.nz.name {s : RS} (h : s.nz) : s.name.1.nz := by
  unfold RS.name; split
  · exact h.pass
  · exact h.wrong (by decide)
theorem RS.nz.literal {s : RS} (h : s.nz) : s.literal.1.nz := by
  unfold RS.literal; split
  · exact h.pass
  · exact h.wrong (by decide)
theorem RS.nz.rel {s : RS} (h : s.nz) : s.rel.1.nz := by
  unfold RS.rel; split
  · exact h
  · exact h.pass
theorem listF_nz {β : Type} (most : Nat) (nx : RS → RS × β) (hn : ∀ s : RS, s.nz → (nx s).1.nz) : ∀ (f : Nat) (s : RS) (acc : List β), s.nz → (listF most nx f s acc).1.nz
  | 0, _, _, h => h
  | f + 1, s, acc, h => by
    rw [listF]
    split
    · exact h.wrong (by decide)
    · split
      · exact listF_nz most nx hn f _ _ (hn s h).pass
      · exact hn s h
theorem partsF_nz (word : ByteArray) (pf : RS → RS × Prd) (hn : ∀ s : RS, s.nz → (pf s).1.nz) : ∀ (f : Nat) (s : RS) (acc : List Prd), s.nz → (partsF word pf f s acc).1.nz
  | 0, _, _, h => h
  | f + 1, s, acc, h => by
    rw [partsF]
    split
    · exact partsF_nz word pf hn f _ _ (hn _ h.pass)
    · exact h
theorem partsL_nz (kind : Nat) (word : ByteArray) (pf : RS → RS × Prd) (hn : ∀ s : RS, s.nz → (pf s).1.nz) (s : RS) (h : s.nz) : (partsL kind word pf s).1.nz :=
  partsF_nz word pf hn _ _ _ (hn s h)
theorem amongL_nz (col : ByteArray) (pos : Nat) (s : RS) (h : s.nz) : (amongL col pos s).1.nz := by
  unfold amongL
  split
  · exact (listF_nz 12 RS.literal (fun _ h => h.literal) 13 _ [] (h.pass.need _)).need _
  · exact ((h.need _).literal.need _).literal
theorem nameP_nz (pos : Nat) (s : RS) (h : s.nz) : (nameP pos s).1.nz := by
  unfold nameP
  have h1 := h.name
  dsimp only
  generalize s.name.1 = u at *
  split
  · split
    · exact h1.pass.pass.need _
    · exact h1.pass.need _
  · split
    · exact amongL_nz _ _ _ h1.pass
    · split
      · exact amongL_nz _ _ _ h1.rel
      · split
        · exact h1.rel.name
        · exact h1.rel.literal
theorem litP_nz (pos : Nat) (s : RS) (h : s.nz) : (litP pos s).1.nz := by
  unfold litP
  have h1 := h.literal
  dsimp only
  generalize s.literal.1 = u at *
  split
  · unfold truthP
    dsimp only
    split
    · exact h1.rel
    · exact h1.rel.wrong (by decide)
  · split
    · exact h1.rel.name
    · exact h1.rel.literal
theorem oneF_nz : ∀ (d : Nat) (s : RS), s.nz → (oneF d s).1.nz
  | 0, s, h => h.wrong (by decide)
  | d + 1, s, h => by
    rw [oneF]
    split
    · exact oneF_nz d _ h.pass
    · split
      · exact (partsL_nz 9 bOr _ (fun s h => partsL_nz 8 bAnd _ (oneF_nz d) s h) _ h.pass).need _
      · split
        · exact nameP_nz _ _ h
        · exact litP_nz _ _ h
theorem anyF_nz (d : Nat) (s : RS) (h : s.nz) : (anyF d s).1.nz := partsL_nz 9 bOr _ (fun s h => partsL_nz 8 bAnd _ (oneF_nz d) s h) s h
theorem columnL_nz (s : RS) (h : s.nz) : (columnL s).1.nz := h.name
theorem itemL_nz (s : RS) (h : s.nz) : (itemL s).1.nz := by
  unfold itemL
  split
  · exact h.name
  · dsimp only
    split
    · exact (h.pass.need _).pass.need _
    · exact (h.pass.need _).name.need _
theorem keyL_nz (s : RS) (h : s.nz) : (keyL s).1.nz := by
  unfold keyL
  have h1 := itemL_nz s h
  dsimp only
  split
  · exact h1.pass
  · split
    · exact h1.pass
    · exact h1
theorem limitL_nz (s : RS) (h : s.nz) : (limitL s).1.nz := by
  unfold limitL
  split
  · dsimp only
    split
    · exact h.wrong (by decide)
    · exact h.pass
  · exact h.wrong (by decide)
theorem queryL_nz (s : RS) (h : s.nz) : (queryL s).1.nz := by
  have h1 : (itemsQ (s.need bSel)).1.nz := by
    unfold itemsQ
    split
    · exact (h.need _).pass
    · exact listF_nz 8 itemL itemL_nz 9 _ [] (h.need _)
  have h2 := (h1.need bFrom).name
  have h3 : ∀ u : RS, u.nz → (whereQ u).1.nz := fun u hu => by
    unfold whereQ; split
    · exact anyF_nz 20 _ hu.pass
    · exact hu
  have h4 : ∀ u : RS, u.nz → (groupQ u).1.nz := fun u hu => by
    unfold groupQ; split
    · exact listF_nz 8 columnL columnL_nz 9 _ [] (hu.pass.need _)
    · exact hu
  have h5 : ∀ u : RS, u.nz → (orderQ u).1.nz := fun u hu => by
    unfold orderQ; split
    · exact listF_nz 8 keyL keyL_nz 9 _ [] (hu.pass.need _)
    · exact hu
  have h6 : ∀ u : RS, u.nz → (limitQ u).1.nz := fun u hu => by
    unfold limitQ; split
    · exact limitL_nz _ hu.pass
    · exact hu
  exact (h6 _ (h5 _ (h4 _ (h3 _ h2)))).fin
end Go.Proofs.YtjaclmoobfeikaaGreatDoor
namespace Go.Proofs.YtjaclmoobfeikaaGreatDoor

/-- A predicate without its lists' places, and (p false) without those in the text. -/
def Pm.z (p : Bool) (x : Pm) : Prd := if p then x.e else x.e.e
/-- The same but for kids. -/
def Pm.like (p : Bool) : Pm → Pm → Prop
  | .mk k c r v o _ _ l _ _ _ i, .mk k' c' r' v' o' _ _ l' _ _ _ i' => k = k' ∧ c = c' ∧ r = r' ∧ v = v' ∧ o = o' ∧ l = l' ∧ (p = true → i = i')
theorem Pm.z_eq : ∀ (p : Bool) (x y : Pm), x.z p = y.z p ↔ Pm.like p x y ∧ x.kids.map (Pm.z p) = y.kids.map (Pm.z p)
  | p, .mk k c r v o _ _ l _ _ ks i, .mk k' c' r' v' o' _ _ l' _ _ ks' i' => by
    cases p with
    | false =>
      have e : ∀ l : List Pm, Prd.es (Pm.es l) = l.map (Pm.z false) := fun l => by
        rw [Pm.es_map, Prd.es_map, List.map_map]; rfl
      simp only [Pm.z, Bool.false_eq_true, if_false, Pm.e, Prd.e, Prd.mk.injEq, Pm.like, Pm.kids, e, and_true, false_implies]
      constructor
      · rintro ⟨h1, h2, h3, h4, h5, h6, h7⟩; exact ⟨⟨h1, h2, h3, h4, h5, h6⟩, h7⟩
      · rintro ⟨⟨h1, h2, h3, h4, h5, h6⟩, h7⟩; exact ⟨h1, h2, h3, h4, h5, h6, h7⟩
    | true =>
      have e : ∀ l : List Pm, Pm.es l = l.map (Pm.z true) := fun l => by
        rw [Pm.es_map]; rfl
      simp only [Pm.z, if_true, Pm.e, Prd.mk.injEq, Pm.like, Pm.kids, e, true_implies]
      constructor
      · rintro ⟨h1, h2, h3, h4, h5, h6, h7, h8⟩; exact ⟨⟨h1, h2, h3, h4, h5, h6, h8⟩, h7⟩
      · rintro ⟨⟨h1, h2, h3, h4, h5, h6, h8⟩, h7⟩; exact ⟨h1, h2, h3, h4, h5, h6, h7, h8⟩
/-- A slice of predicates. -/
structure Psl where
  a : Ptr
  c : Nat
  l : List Pm
instance : Inhabited Psl := ⟨⟨Option.none, 0, []⟩⟩
def Psl.v (x : Psl) : Value := .slice x.a x.l.length x.c
def Pm.ksl : Pm → Psl | .mk _ _ _ _ _ _ _ _ ka kc ks _ => ⟨ka, kc, ks⟩
theorem Pm.ksl_l : ∀ x : Pm, x.ksl.l = x.kids | .mk .. => rfl
def Psl.in (S : Nat → Prop) (w : World) (x : Psl) : Prop := CellsS S w x.a (x.l.flatMap Pm.c) ∧ x.l.length ≤ x.c ∧ PmSs S w x.l
theorem Pm.ksl_in {S : Nat → Prop} {w : World} : ∀ {x : Pm}, PmS S w x → x.ksl.in S w
  | .mk .., h => ⟨h.2.2.1, h.2.2.2.1, h.2.2.2.2⟩
theorem Psl.in.keep {S : Nat → Prop} {w w' : World} {x : Psl} (h : x.in S w) (hk : Stays S w w') : x.in S w' := ⟨h.1.keep hk, h.2.1, h.2.2.keep hk⟩
/-- Pairs of slices that are left. -/
abbrev Lft := List (Psl × Psl)
def Lft.same (b : Bool) (st : Lft) : Prop := ∀ p ∈ st, p.1.l.map (Pm.z b) = p.2.l.map (Pm.z b)
mutual
def Pm.n : Pm → Nat
  | .mk _ _ _ _ _ _ _ _ _ _ ks _ => 1 + Pm.ns ks
def Pm.ns : List Pm → Nat
  | [] => 0
  | x :: r => x.n + Pm.ns r
end
def Lft.w : Lft → Nat
  | [] => 0
  | p :: r => 2 * Pm.ns p.1.l + 1 + Lft.w r
theorem Pm.n_eq : ∀ x : Pm, x.n = 1 + Pm.ns x.kids | .mk .. => by simp [Pm.n, Pm.kids]
mutual
theorem Pm.n_e : ∀ x : Pm, x.n = x.e.n
  | .mk _ _ _ _ _ _ _ _ _ _ ks _ => by rw [Pm.n, Pm.e, Prd.n, Pm.ns_es ks]
theorem Pm.ns_es : ∀ l : List Pm, Pm.ns l = Prd.ns (Pm.es l)
  | [] => rfl
  | x :: r => by rw [Pm.ns, Pm.es, Prd.ns, Pm.n_e x, Pm.ns_es r]
end
end Go.Proofs.YtjaclmoobfeikaaGreatDoor
namespace Go.Proofs.YtjaclmoobfeikaaGreatDoor
open Go.RowKit

/-- The first error as a value. -/
def errI : Option (Nat × Nat) → Value
  | .none => .nilIface
  | .some (p, c) => .iface 73 (.agg #[.int .i64 p, .iface 74 (.int .i64 c)])
/-- The reader at block R, its tokens in block b. -/
structure RdA (R b deep : Nat) (s : RS) (w : World) : Prop where
  at_ : ∃ o k, w.heap[R]? = some (.cells #[.slice (some ⟨b, o, none⟩) s.rest.length k, .int .i64 deep, errI s.err] 98 (0, 0)) ∧ s.rest.length ≤ k ∧ k ≤ maxLen ∧ ∀ j u, (s.rest.flatMap Tk.c)[j]? = some u → w.cell? ⟨b, o + j, none⟩ = some u
  ok : s.ok
  few : s.rest.length ≤ 260
  lt : b < w.heap.size
  ne : b ≠ R
  far : Far w
  gR : 11 ≠ R
  sz : ∀ t ∈ s.rest, t.text.size ≤ 1510
theorem RdA.lt' {R b deep : Nat} {s : RS} {w : World} (h : RdA R b deep s w) : R < w.heap.size := by
  obtain ⟨o, k, hb, _⟩ := h.at_
  exact (Array.getElem?_eq_some_iff.1 hb).1
theorem RdA.keep {R b deep : Nat} {s : RS} {w w' : World} (h : RdA R b deep s w) (hg : w.grownBy w' none) : RdA R b deep s w' := by
  have hlt := h.lt'
  obtain ⟨⟨o, k, hb, h1, h2, h3⟩, ok, few, lt, ne, ⟨tp, p, far⟩, gR, sz⟩ := h
  exact ⟨⟨o, k, (hg.block R hlt (by simp)).trans hb, h1, h2, fun j u hj => hg.cell (h3 j u hj) (by simp)⟩, ok, few, Nat.lt_of_lt_of_le lt hg.size, ne, ⟨tp, p, hg.cell far (by simp)⟩, gR, sz⟩
theorem grown_cellR (w : World) (g i : Nat) (u : Value) : w.grownBy (w.setCell ⟨g, i, none⟩ u) (some g) := ⟨rfl, rfl, rfl, by simp [World.setCell], fun _ _ hne => Below.heap_setCell _ _ _ _ (fun e => hne (by rw [e]))⟩
/-- The reader goes on to s', and nothing else that was there changes. -/
def RdGo (R b deep : Nat) (s' : RS) (w w' : World) : Prop := RdA R b deep s' w' ∧ w.grownBy w' (some R)
theorem RdGo.self {R b deep : Nat} {s : RS} {w : World} (h : RdA R b deep s w) : RdGo R b deep s w w := ⟨h, grown_reflT w _⟩
theorem grown_anyR {w w' : World} (h : w.grownBy w' none) (row : Option Nat) : w.grownBy w' row := ⟨h.os, h.tape, h.output, h.size, fun i hi _ => h.block i hi (by simp)⟩
theorem _root_.Go.World.grownBy.trans' {w w' w2 : World} {row : Option Nat} (h : w.grownBy w' none) (h2 : w'.grownBy w2 row) : w.grownBy w2 row := World.grownBy.trans (grown_anyR h row) h2
-- {w w' : World} (h : w.grownBy w' none) (row : Option Nat) : w.grownBy w' row := ⟨h.os, h.tape, h.output, h.size, fun i hi _ => h.block i hi (by simp)⟩
theorem RdGo.keep {R b deep : Nat} {s : RS} {w w' w2 : World} (h : RdGo R b deep s w w') (hg : w'.grownBy w2 none) : RdGo R b deep s w w2 := ⟨h.1.keep hg, h.2.trans (grown_anyR hg _)⟩
theorem RdGo.then {R b deep : Nat} {s t : RS} {w w' w2 : World} (h : RdGo R b deep s w w') (h2 : RdGo R b deep t w' w2) : RdGo R b deep t w w2 := ⟨h2.1, h.2.trans h2.2⟩
theorem tk_drop (l : List Tk) (i : Nat) (j : Nat) (u : Value) (h : ((l.drop i).flatMap Tk.c)[j]? = some u) (hi : i ≤ l.length) : (l.flatMap Tk.c)[i * 3 + j]? = some u := by
  have e : l.flatMap Tk.c = (l.take i).flatMap Tk.c ++ (l.drop i).flatMap Tk.c := by rw [← List.flatMap_append, List.take_append_drop]
  rw [e, List.getElem?_append_right (by rw [tk_len, List.length_take]; omega), tk_len, List.length_take, show i * 3 + j - min i l.length * 3 = j by rw [Nat.min_eq_left hi]; omega]
  exact h
/-- Behind i tokens more, with another error or the same. -/
theorem RdA.move {R b deep : Nat} {s : RS} {w : World} (h : RdA R b deep s w) {o k : Nat} (hc : ∀ j u, (s.rest.flatMap Tk.c)[j]? = some u → w.cell? ⟨b, o + j, none⟩ = some u) (hk : k ≤ maxLen) (hl : s.rest.length ≤ k)
    {i : Nat} (hi : i < s.rest.length) (s' : RS) (hr : s'.rest = s.rest.drop i) (hok : s'.ok) {w' : World} (hb' : w'.heap[R]? = some (.cells #[.slice (some ⟨b, o + i * 3, none⟩) (s.rest.length - i) (k - i), .int .i64 deep, errI s'.err] 98 (0, 0))) (hg : w.grownBy w' (some R)) : RdGo R b deep s' w w' := by
  have hne := h.ne
  have hgR := h.gR
  obtain ⟨tp, p, far⟩ := h.far
  refine ⟨⟨⟨o + i * 3, k - i, ?_, ?_, by omega, fun j u hj => ?_⟩, hok, ?_, Nat.lt_of_lt_of_le h.lt hg.size, hne, ⟨tp, p, hg.cell far (by simp; exact hgR)⟩, hgR, fun t ht => h.sz t (List.mem_of_mem_drop (hr ▸ ht))⟩, hg⟩
  · rw [hr, List.length_drop]; exact hb'
  · rw [hr, List.length_drop]; omega
  · rw [hr] at hj
    have := hc _ u (tk_drop s.rest i j u hj (by omega))
    rw [Nat.add_assoc]
    exact hg.cell this (by simp; exact hne)
  · have := h.few
    rw [hr, List.length_drop]; omega
theorem RdA.hd {R b deep : Nat} {s : RS} {w : World} (h : RdA R b deep s w) : ∃ o k, w.cell? ⟨R, 0, none⟩ = some (.slice (some ⟨b, o, none⟩) s.rest.length k) ∧ 1 ≤ s.rest.length ∧ s.rest.length ≤ k ∧ k ≤ maxLen ∧ w.cell? ⟨b, o, none⟩ = some (.int .i64 s.hd.kind) ∧ w.cell? ⟨b, o + 1, none⟩ = some (.string s.hd.text) ∧ w.cell? ⟨b, o + 2, none⟩ = some (.int .i64 s.hd.pos) := by
  obtain ⟨⟨o, k, hb, h1, h2, h3⟩, ok, _, _, _, _, _, _⟩ := h
  obtain ⟨r, hr⟩ := ok.hd
  have e : s.rest.flatMap Tk.c = [.int .i64 s.hd.kind, .string s.hd.text, .int .i64 s.hd.pos] ++ r.flatMap Tk.c := by
    conv => lhs; rw [hr]
    rfl
  refine ⟨o, k, ?_, ok.pos, h1, h2, ?_, ?_, ?_⟩
  · rw [cell_of_row _ _ 0 _ _ _ hb]; rfl
  · have := h3 0 (.int .i64 s.hd.kind) (by rw [e]; rfl)
    simpa using this
  · exact h3 1 _ (by rw [e]; rfl)
  · exact h3 2 _ (by rw [e]; rfl)
set_option maxRecDepth 100000 in
theorem comes_any (R b deep : Nat) (s : RS) (w : World) (h : RdA R b deep s w) :
    Calls Tryz.prog 90 #[.pointer (some ⟨R, 0, none⟩)] w fun e w' => e = .returned (.agg #[.int .i64 s.hd.kind, .string s.hd.text, .int .i64 s.hd.pos]) ∧ w.grownBy w' none := by
  obtain ⟨o, k, c0, h1, h2, h3, d0, d1, d2⟩ := h.hd
  have n0 : (0 : Int) < s.rest.length := by omega
  have lR := h.lt'
  have lb := h.lt
  generalize s.rest.length = n at *
  generalize s.hd.kind = kd at *
  generalize s.hd.text = tx at *
  generalize s.hd.pos = ps at *
  clear h
  go_enter Tryz.func90, Tryz.ntmps90
  go_wp2_with fail
  exact bodyPost_ret (v := .agg #[.int .i64 kd, .string tx, .int .i64 ps]) (by simp [results, Tryz.results90, go_sem]) rfl ⟨rfl, World.grownBy_alloc _ _ _⟩
set_option maxRecDepth 100000 in
theorem pass_any (R b deep : Nat) (s : RS) (w : World) (h : RdA R b deep s w) (hm : s.more) :
    Calls Tryz.prog 91 #[.pointer (some ⟨R, 0, none⟩)] w fun e w' => e = .returned (.tuple #[]) ∧ RdGo R b deep s.pass w w' := by
  obtain ⟨o, k, hb, h1, h2, h3⟩ := h.at_
  have hl := h.ok.long hm
  have hp := (h.ok.pass hm).1
  have c0 := cell_of_row _ _ 0 _ _ _ hb
  simp at c0
  have f0 := frozen_of_row _ _ 0 _ _ hb
  have HF := Lib.hid (fun (w' : World) (hb' : w'.heap[R]? = some (.cells #[.slice (some ⟨b, o + 1 * 3, none⟩) (s.rest.length - 1) (k - 1), .int .i64 deep, errI s.err] 98 (0, 0))) (hg : w.grownBy w' (some R)) => h.move h3 h2 h1 (i := 1) (by omega) s.pass rfl hp hb' hg)
  have HB := Lib.hid hb
  generalize s.rest.length = n at *
  have n0 : (1 : Int) ≤ n := by omega
  have n1 : (n : Int) ≤ k := by omega
  have n2 : ¬ k = 1 := by omega
  clear h h3 hp hb
  go_enter Tryz.func91, Tryz.ntmps91
  go_wp2_with fail
  go_end0
  have e := heap_setCell_same w R 0 _ _ (.slice (some ⟨b, o + 3, none⟩) (n - 1) (k - 1)) HB.out
  exact ⟨rfl, HF.out _ (by simpa using e) (grown_cellR w R 0 _)⟩
set_option maxRecDepth 100000 in
theorem field_tk0 (x y z : Value) (w : World) : (Instr.field 174 (.agg #[x, y, z]) 0).run Tryz.prog w = .ok x w := rfl
set_option maxRecDepth 100000 in
theorem field_tk1 (x y z : Value) (w : World) : (Instr.field 174 (.agg #[x, y, z]) 1).run Tryz.prog w = .ok y w := rfl
set_option maxRecDepth 100000 in
theorem field_tk2 (x y z : Value) (w : World) : (Instr.field 174 (.agg #[x, y, z]) 2).run Tryz.prog w = .ok z w := rfl
set_option maxRecDepth 100000 in
theorem wrong_any (R b deep : Nat) (s : RS) (c : Nat) (w : World) (h : RdA R b deep s w) :
    Calls Tryz.prog 89 #[.pointer (some ⟨R, 0, none⟩), .int .i64 c] w fun e w' => e = .returned (.tuple #[]) ∧ RdGo R b deep (s.wrong c) w w' := by
  obtain ⟨o, k, hb, h1, h2, h3⟩ := h.at_
  have hl := h.ok.pos
  have hp := (h.ok.wrong c).1
  have c0 := cell_of_row _ _ 0 _ _ _ hb
  have c2 := cell_of_row _ _ 2 _ _ _ hb
  simp at c0 c2
  have f0 := frozen_of_row _ _ 0 _ _ hb
  have f2 := frozen_of_row _ _ 2 _ _ hb
  have HF := Lib.hid (fun (w' : World) (hb' : w'.heap[R]? = some (.cells #[.slice (some ⟨b, o + (s.rest.length - 1) * 3, none⟩) (s.rest.length - (s.rest.length - 1)) (k - (s.rest.length - 1)), .int .i64 deep, errI (s.wrong c).err] 98 (0, 0))) (hg : w.grownBy w' (some R)) => h.move h3 h2 h1 (i := s.rest.length - 1) (by omega) (s.wrong c) rfl hp hb' hg)
  have HB := Lib.hid hb
  have HC := Lib.hid (comes_any R b deep s w h)
  have lR := h.lt'
  have he : (s.wrong c).err = some (s.err.getD (s.hd.pos, c)) := rfl
  rw [he] at HF
  have hf := h.few
  obtain ⟨n, hn⟩ : ∃ n, n + 1 = s.rest.length := ⟨s.rest.length - 1, by omega⟩
  rw [← hn] at HF HB c0 h1 hf
  rw [show n + 1 - 1 = n by omega, show n + 1 - n = 1 by omega] at HF
  generalize s.hd.kind = kd at *
  generalize s.hd.text = tx at *
  generalize s.hd.pos = ps at *
  have n1 : ((n : Int) + 1) ≤ k := by omega
  have n2 : ¬ k = n := by omega
  have n3 : (n : Int) ≤ k := by omega
  have n4 : IntKind.i64.wrap ((n : Int) + 1 - 1) = (n : Int) := by rw [IntKind.wrap_i64]; omega
  have n5 : (0 : Int) ≤ n := by omega
  cases hse : s.err with
  | none =>
    rw [hse] at HF HB c2
    simp only [Option.getD_none] at HF
    clear h h3 hp hb hn hl he hse
    simp only [errI] at c2
    go_enter Tryz.func89, Tryz.ntmps89
    go_wp2_with fail
    refine HC.out.mono ?_
    rintro e w2 ⟨rfl, hg⟩
    have d0 := hg.cell c0 (by simp)
    have d2 := hg.cell c2 (by simp)
    have B2 := Lib.hid ((hg.block R lR (by simp)).trans HB.out)
    have G2 := Lib.hid hg
    have lR2 : R < w2.heap.size := Nat.lt_of_lt_of_le lR hg.size
    have f0 := frozen_of_row _ _ 0 _ _ B2.out
    have f2 := frozen_of_row _ _ 2 _ _ B2.out
    have t2 := field_tk2 (.int .i64 kd) (.string tx) (.int .i64 ps) w2
    clear hg c0 c2
    go_wp2_with fail
    have e2 := heap_setCell_same w2 R 2 _ _ (errI (some (ps, c))) B2.out
    simp only [errI] at e2
    have gr := G2.out.trans' (grown_cellR w2 R 2 (errI (some (ps, c))))
    simp only [errI] at gr
    generalize w2.setCell ⟨R, 2, none⟩ (.iface 73 (.agg #[.int .i64 ps, .iface 74 (.int .i64 c)])) = W at *
    have GR := Lib.hid gr
    have E2 := Lib.hid e2
    have x0 := cell_of_row _ _ 0 _ _ _ e2
    have y0 := frozen_of_row _ _ 0 _ _ e2
    simp at x0
    clear gr e2 d0 d2 t2 f0 f2 lR2
    go_region
    go_wp2_with fail
    go_end0
    have e := heap_setCell_same W R 0 _ _ (.slice (some ⟨b, o + n * 3, none⟩) 1 (k - n)) E2.out
    exact ⟨rfl, HF.out _ (by rw [heap_drew]; simpa [errI] using e) (grown_drewT (GR.out.trans (grown_cellR W R 0 _)))⟩
  | some p =>
    obtain ⟨p0, c0'⟩ := p
    rw [hse] at HF HB c2
    simp only [Option.getD_some] at HF
    clear h h3 hp hb hn hl he hse
    simp only [errI] at c2
    go_enter Tryz.func89, Tryz.ntmps89
    go_wp2_with fail
    go_region
    go_wp2_with fail
    go_end0
    have e := heap_setCell_same w R 0 _ _ (.slice (some ⟨b, o + n * 3, none⟩) 1 (k - n)) HB.out
    exact ⟨rfl, HF.out _ (by rw [heap_drew]; simpa [errI] using e) (grown_drewT (grown_cellR w R 0 _))⟩
theorem str_ne {s t : ByteArray} (h : ¬ s = t) : (s.toList == t.toList) = false := by
  rw [beq_eq_false_iff_ne]
  intro e
  rw [Lib.toList_data, Lib.toList_data] at e
  exact h (bytes_ext e)
theorem RS.took_yes {s : RS} {t : ByteArray} (h : s.comes t = true) : s.took t = (s.pass, true) := if_pos h
theorem RS.took_no {s : RS} {t : ByteArray} (h : s.comes t = false) : s.took t = (s, false) := if_neg (by simp [h])
set_option maxRecDepth 100000 in
theorem took_any (R b deep : Nat) (s : RS) (t : ByteArray) (w : World) (h : RdA R b deep s w) (ht : t ≠ ⟨#[]⟩) :
    Calls Tryz.prog 52 #[.pointer (some ⟨R, 0, none⟩), .string t] w fun e w' => e = .returned (.bool (s.comes t)) ∧ RdGo R b deep (if s.comes t then s.pass else s) w w' := by
  have HC := Lib.hid (comes_any R b deep s w h)
  have HS := Lib.hid h
  cases hc : s.comes t with
  | true =>
    have HP := Lib.hid (fun W (hW : w.grownBy W none) => pass_any R b deep s W (h.keep hW) (RS.more_of ht hc))
    have he : s.hd.text = t := of_decide_eq_true hc
    rw [he] at HC
    generalize s.hd.kind = kd at *
    generalize s.hd.pos = ps at *
    clear h he hc
    go_enter Tryz.func52, Tryz.ntmps52
    go_wp2_with fail
    refine HC.out.mono ?_
    rintro e w2 ⟨rfl, hg⟩
    have G2 := Lib.hid hg
    have t1 := field_tk1 (.int .i64 kd) (.string t) (.int .i64 ps) w2
    clear hg
    go_wp2_with fail
    refine (HP.out _ G2.out).mono ?_
    rintro e w3 ⟨rfl, hr⟩
    go_wp2_with fail
    go_ret
    exact ⟨rfl, hr.1, G2.out.trans' hr.2⟩
  | false =>
    have he : ¬ s.hd.text = t := of_decide_eq_false hc
    generalize s.hd.kind = kd at *
    generalize s.hd.pos = ps at *
    generalize s.hd.text = tx at *
    have he2 := str_ne he
    clear h hc
    go_enter Tryz.func52, Tryz.ntmps52
    go_wp2_with fail
    refine HC.out.mono ?_
    rintro e w2 ⟨rfl, hg⟩
    have G2 := Lib.hid hg
    have t1 := field_tk1 (.int .i64 kd) (.string tx) (.int .i64 ps) w2
    clear hg
    go_wp2_with fail
    go_ret
    exact ⟨rfl, (RdGo.self HS.out).keep G2.out⟩
set_option maxRecDepth 100000 in
theorem need_any (R b deep : Nat) (s : RS) (t : ByteArray) (w : World) (h : RdA R b deep s w) (ht : t ≠ ⟨#[]⟩) :
    Calls Tryz.prog 51 #[.pointer (some ⟨R, 0, none⟩), .string t] w fun e w' => e = .returned (.tuple #[]) ∧ RdGo R b deep (s.need t) w w' := by
  have HT := Lib.hid (took_any R b deep s t w h ht)
  have HW := Lib.hid (fun W (hW : RdA R b deep s W) => wrong_any R b deep s 11 W hW)
  unfold RS.need
  clear h
  cases hc : s.comes t with
  | true =>
    rw [hc] at HT
    simp only [if_true] at HT ⊢
    clear hc
    go_enter Tryz.func51, Tryz.ntmps51
    go_wp2_with fail
    refine HT.out.mono ?_
    rintro e w2 ⟨rfl, hg⟩
    go_wp2_with fail
    go_end0
    exact ⟨rfl, hg⟩
  | false =>
    rw [hc] at HT
    simp only [Bool.false_eq_true, if_false] at HT ⊢
    clear hc
    go_enter Tryz.func51, Tryz.ntmps51
    go_wp2_with fail
    refine HT.out.mono ?_
    rintro e w2 ⟨rfl, hg⟩
    have G := Lib.hid hg
    clear hg
    go_wp2_with fail
    refine (HW.out _ G.out.1).mono ?_
    rintro e w3 ⟨rfl, hr⟩
    go_wp2_with fail
    go_end0
    exact ⟨rfl, G.out.then hr⟩
set_option maxRecDepth 100000 in
theorem end_any (R b deep : Nat) (s : RS) (w : World) (h : RdA R b deep s w) :
    Calls Tryz.prog 63 #[.pointer (some ⟨R, 0, none⟩)] w fun e w' => e = .returned (.tuple #[]) ∧ RdGo R b deep s.fin w w' := by
  have HC := Lib.hid (comes_any R b deep s w h)
  have HW := Lib.hid (fun W (hW : RdA R b deep s W) => wrong_any R b deep s 11 W hW)
  have HS := Lib.hid h
  unfold RS.fin
  generalize s.hd.pos = ps at *
  generalize s.hd.text = tx at *
  clear h
  by_cases hk : s.hd.kind = 0
  · rw [if_pos hk]
    rw [hk, show ((0 : Nat) : Int) = 0 from rfl] at HC
    clear hk
    go_enter Tryz.func63, Tryz.ntmps63
    go_wp2_with fail
    refine HC.out.mono ?_
    rintro e w2 ⟨rfl, hg⟩
    have G2 := Lib.hid hg
    have t1 := field_tk0 (.int .i64 0) (.string tx) (.int .i64 ps) w2
    clear hg
    go_wp2_with fail
    go_end0
    exact ⟨rfl, (RdGo.self HS.out).keep G2.out⟩
  · rw [if_neg hk]
    generalize s.hd.kind = kd at *
    have hk2 : ¬ (kd : Int) = 0 := by omega
    have hk3 : ((kd : Int) != 0) = true := by simpa using hk2
    go_enter Tryz.func63, Tryz.ntmps63
    go_wp2_with fail
    refine HC.out.mono ?_
    rintro e w2 ⟨rfl, hg⟩
    have G2 := Lib.hid hg
    have t1 := field_tk0 (.int .i64 kd) (.string tx) (.int .i64 ps) w2
    clear hg
    go_wp2_with fail
    refine (HW.out _ (HS.out.keep G2.out)).mono ?_
    rintro e w3 ⟨rfl, hr⟩
    go_wp2_with fail
    go_end0
    exact ⟨rfl, hr.1, G2.out.trans' hr.2⟩
set_option maxRecDepth 100000 in
theorem pnamed_any (R b deep : Nat) (s : RS) (w : World) (h : RdA R b deep s w) :
    Calls Tryz.prog 93 #[.pointer (some ⟨R, 0, none⟩)] w fun e w' => e = .returned (.bool s.named) ∧ w.grownBy w' none := by
  have HC := Lib.hid (comes_any R b deep s w h)
  unfold RS.named
  generalize s.hd.pos = ps at *
  generalize s.hd.text = tx at *
  generalize s.hd.kind = kd at *
  clear h
  go_enter Tryz.func93, Tryz.ntmps93
  go_wp2_with fail
  refine HC.out.mono ?_
  rintro e w2 ⟨rfl, hg⟩
  have t1 := field_tk0 (.int .i64 kd) (.string tx) (.int .i64 ps) w2
  go_wp2_with fail
  go_ret
  have hd : decide (kd = 1) = ((kd : Int) == 1) := by
    by_cases e : kd = 1
    · subst e; rfl
    · have h2 : ((kd : Int) == 1) = false := by rw [beq_eq_false_iff_ne]; omega
      simp [e, h2]
  rw [hd]
  exact ⟨rfl, hg⟩
set_option maxRecDepth 100000 in
theorem pname_any (R b deep : Nat) (s : RS) (w : World) (h : RdA R b deep s w) :
    Calls Tryz.prog 56 #[.pointer (some ⟨R, 0, none⟩)] w fun e w' => e = .returned (.string s.name.2) ∧ RdGo R b deep s.name.1 w w' := by
  have HN := Lib.hid (pnamed_any R b deep s w h)
  have HS := Lib.hid h
  unfold RS.name
  cases hc : s.named with
  | true =>
    have HC := Lib.hid (fun W (hW : w.grownBy W none) => comes_any R b deep s W (h.keep hW))
    have HP := Lib.hid (fun W (hW : w.grownBy W none) => pass_any R b deep s W (h.keep hW) (RS.more_named hc))
    rw [hc] at HN
    simp only [if_true]
    generalize s.hd.pos = ps at *
    generalize s.hd.text = tx at *
    generalize s.hd.kind = kd at *
    clear h hc
    go_enter Tryz.func56, Tryz.ntmps56
    go_wp2_with fail
    refine HN.out.mono ?_
    rintro e w2 ⟨rfl, hg⟩
    have G2 := Lib.hid hg
    clear hg
    go_wp2_with fail
    refine (HC.out _ G2.out).mono ?_
    rintro e w3 ⟨rfl, hg⟩
    have G3 := Lib.hid (G2.out.trans hg)
    have t1 := field_tk1 (.int .i64 kd) (.string tx) (.int .i64 ps) w3
    clear hg
    go_wp2_with fail
    refine (HP.out _ G3.out).mono ?_
    rintro e w4 ⟨rfl, hr⟩
    go_wp2_with fail
    go_ret
    exact ⟨rfl, hr.1, G3.out.trans' hr.2⟩
  | false =>
    have HW := Lib.hid (fun W (hW : w.grownBy W none) => wrong_any R b deep s 11 W (h.keep hW))
    rw [hc] at HN
    simp only [Bool.false_eq_true, if_false]
    clear h hc
    go_enter Tryz.func56, Tryz.ntmps56
    go_wp2_with fail
    refine HN.out.mono ?_
    rintro e w2 ⟨rfl, hg⟩
    have G2 := Lib.hid hg
    clear hg
    go_wp2_with fail
    refine (HW.out _ G2.out).mono ?_
    rintro e w3 ⟨rfl, hr⟩
    go_wp2_with fail
    go_ret
    exact ⟨rfl, hr.1, G2.out.trans' hr.2⟩
end Go.Proofs.YtjaclmoobfeikaaGreatDoor
