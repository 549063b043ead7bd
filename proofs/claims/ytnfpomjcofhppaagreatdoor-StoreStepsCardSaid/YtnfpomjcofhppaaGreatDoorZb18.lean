/- The document's lists of pairs: Delete. How high a tree in balance is; the document's Bits. Layer 7's fixed fact. -/
import Derived.Test.YtnfpomjcofhppaaGreatDoorZb16
namespace Go.Proofs.YtnfpomjcofhppaaGreatDoor
open Go.RowKit

/-- A pair of slices. -/
structure Pw where
  k : Rw
  r : Rw
instance : Inhabited Pw := ⟨⟨default, default⟩⟩
def Pw.p (x : Pw) : List Vl × List Vl := (x.k.l, x.r.l)
def Pw.c (x : Pw) : List Value := [x.k.v, x.r.v]
/-- A slice of pairs that lies in S. -/
def PsS (S : Nat → Prop) (w : World) (a : Ptr) (l : List Pw) : Prop :=
  l.length ≤ 100000 ∧ (∀ x ∈ l, RwS S w x.k.a x.k.l ∧ RwS S w x.r.a x.r.l) ∧ (l = [] ∨ ∃ b off, a = some ⟨b, off, none⟩ ∧ S b ∧ b < w.heap.size ∧ ∀ i, i < l.length → w.cell? ⟨b, off + i * 2, none⟩ = some (l.getD i default).k.v ∧ w.cell? ⟨b, off + i * 2 + 1, none⟩ = some (l.getD i default).r.v)
theorem PsS.keep {S : Nat → Prop} {w w' : World} {a : Ptr} {l : List Pw} (h : PsS S w a l) (hk : Stays S w w') : PsS S w' a l := by
  refine ⟨h.1, fun x hx => ⟨(h.2.1 x hx).1.keep hk, (h.2.1 x hx).2.keep hk⟩, h.2.2.imp id fun ⟨b, off, e, hs, hlt, hc⟩ => ⟨b, off, e, hs, Nat.lt_of_lt_of_le hlt hk.1, fun i hi => ?_⟩⟩
  have hb := hk.2 b hs hlt
  exact ⟨(World.cell?_of_block (a := ⟨b, _, none⟩) hb).trans (hc i hi).1, (World.cell?_of_block (a := ⟨b, _, none⟩) hb).trans (hc i hi).2⟩
theorem PsS.mono {S S' : Nat → Prop} {w : World} {a : Ptr} {l : List Pw} (h : PsS S w a l) (hs : ∀ b, b < w.heap.size → S b → S' b) : PsS S' w a l :=
  ⟨h.1, fun x hx => ⟨(h.2.1 x hx).1.mono hs, (h.2.1 x hx).2.mono hs⟩, h.2.2.imp id fun ⟨b, off, e, h1, h2, hc⟩ => ⟨b, off, e, hs b h2 h1, h2, hc⟩⟩
theorem PsS.at {S : Nat → Prop} {w : World} {a : Ptr} {l : List Pw} (h : PsS S w a l) {i : Nat} (hi : i < l.length) : ∃ b off, a = some ⟨b, off, none⟩ ∧ b < w.heap.size ∧ w.cell? ⟨b, off + i * 2, none⟩ = some (l.getD i default).k.v ∧ w.cell? ⟨b, off + i * 2 + 1, none⟩ = some (l.getD i default).r.v := by
  rcases h.2.2 with h0 | ⟨b, off, e, _, hlt, hc⟩
  · rw [h0] at hi; simp at hi
  · exact ⟨b, off, e, hlt, hc i hi⟩
theorem PsS.mem {S : Nat → Prop} {w : World} {a : Ptr} {l : List Pw} (h : PsS S w a l) {i : Nat} (hi : i < l.length) : RwS S w (l.getD i default).k.a (l.getD i default).k.l ∧ RwS S w (l.getD i default).r.a (l.getD i default).r.l :=
  h.2.1 _ (by simp [List.getD, hi])
theorem pc_len (l : List Pw) : (l.flatMap Pw.c).length = l.length * 2 := by
  induction l with
  | nil => rfl
  | cons x l ih => rw [List.flatMap_cons, List.length_append, ih]; simp [Pw.c]; omega
theorem pc_at (l : List Pw) : ∀ i, i < l.length → (l.flatMap Pw.c)[i * 2]? = some (l.getD i default).k.v ∧ (l.flatMap Pw.c)[i * 2 + 1]? = some (l.getD i default).r.v := by
  induction l with
  | nil => intro i hi; simp at hi
  | cons x l ih =>
    intro i hi
    rw [List.flatMap_cons]
    match i, hi with
    | 0, _ => exact ⟨rfl, rfl⟩
    | i + 1, hi =>
      have := ih i (by simpa using hi)
      have e : ∀ o, (Pw.c x ++ l.flatMap Pw.c)[(i + 1) * 2 + o]? = (l.flatMap Pw.c)[i * 2 + o]? := fun o => by
        rw [List.getElem?_append_right (by simp [Pw.c]; omega)]
        congr 1
        simp [Pw.c]
        omega
      have e0 := e 0
      simp only [Nat.add_zero] at e0
      rw [e0, e 1]
      simpa [List.getD] using this
/-- A list of one's own lies in S. -/
theorem own_ps {S : Nat → Prop} {B : Nat} {w : World} {v : Value} {l : List Pw} (h : w.ownsRow B 104 2 v l.length (l.flatMap Pw.c)) (hS : ∀ b, B ≤ b → S b) (hl : l.length ≤ 100000) (hs : ∀ x ∈ l, RwS S w x.k.a x.k.l ∧ RwS S w x.r.a x.r.l) : ∃ a cap, v = .slice a l.length cap ∧ PsS S w a l := by
  rcases h.2 with ⟨hv, h0⟩ | ⟨g, cap, cur, hv, hb, hg, _⟩
  · exact ⟨none, 0, by rw [hv, h0], hl, hs, .inl (List.eq_nil_of_length_eq_zero h0)⟩
  · have hlt := (h.lt g (by rw [hv]; rfl)).2
    refine ⟨some ⟨g, 0, none⟩, cap, hv, hl, hs, .inr ⟨g, 0, rfl, hS g hb, hlt, fun i hi => ?_⟩⟩
    have c := h.cells (g := g) (by rw [hv]; rfl)
    have k := pc_at l i hi
    have c0 := c _ _ k.1
    have c1 := c _ _ k.2
    rw [add_atT] at c0 c1
    exact ⟨c0, c1⟩
theorem pair_info : (Tryz.prog.info? 104).map (fun i => (i.zero, i.size, i.bytes)) = some (some (.agg #[.slice none 0 0, .slice none 0 0]), 2, 48) := by kernel_rfl
theorem two_at {w : World} {b : Nat} {x y : Value} (h : Box2 b w x y) : ∀ j u, [x, y][j]? = some u → w.cell? ((⟨b, 0, none⟩ : Addr).add j) = some u := by
  intro j u hj
  rw [add_atT]
  match j, hj with
  | 0, hj => simp at hj; subst hj; exact h.1
  | 1, hj => simp at hj; subst hj; exact h.2
theorem two_one (a c : Ptr) (n p m q : Nat) : ∀ u ∈ [Value.slice a n p, Value.slice c m q], u.oneCell' = true := by
  intro u hu
  simp only [List.mem_cons, List.not_mem_nil, or_false] at hu
  rcases hu with rfl | rfl <;> rfl
/-- The pairs whose key is another. -/
def delP (k : List Vl) (l : List Pw) : List Pw := l.filter fun x => !(rowsOrd x.k.l k == 0)
theorem delP_step {k : List Vl} {l : List Pw} {i : Nat} (h : i < l.length) : delP k (l.take (i + 1)) = delP k (l.take i) ++ (if rowsOrd (l.getD i default).k.l k = 0 then [] else [l.getD i default]) := by
  rw [List.take_succ_eq_append_getElem h]
  unfold delP
  rw [List.filter_append]
  congr 1
  have e : l.getD i default = l[i] := by simp [List.getD, h]
  rw [e]
  by_cases hz : rowsOrd l[i].k.l k = 0 <;> simp [hz]
set_option maxRecDepth 100000 in
set_option maxHeartbeats 6400000 in
theorem refDelete_any (S : Nat → Prop) (a ka : Ptr) (cap kc : Nat) (l : List Pw) (k : List Vl) (w : World) (h : PsS S w a l) (hcap : l.length ≤ cap) (hk : RowAt w ka k) :
    Calls Tryz.prog 32 #[.slice a l.length cap, .slice ka k.length kc] w fun e w' => (∃ v, e = .returned v ∧ w'.ownsRow w.heap.size 104 2 v (delP k l).length ((delP k l).flatMap Pw.c)) ∧ w.grownBy w' none := by
  have H := Lib.hid h
  have HS := Lib.hid (fun i (hi : i < l.length) W (hW : w.grownBy W none) => (refSame_any (l.getD i default).k.a ka (l.getD i default).k.cap kc (l.getD i default).k.l k W ((h.mem hi).1.keep (.of hW)).row (hk.keep (below_grownT hW))).mono fun e w' h => And.intro h.1 (grown_belowT h.2 none))
  have hl := h.1
  obtain ⟨n, hn⟩ : ∃ n, n = l.length := ⟨_, rfl⟩
  have Hn := Lib.hid hn
  rw [← hn] at hl hcap HS ⊢
  generalize k.length = m at *
  clear h hk hn
  obtain ⟨i0, hi, hz0, hz1, hz2⟩ := info_partsT pair_info
  go_enter Tryz.func32, Tryz.ntmps32
  go_wp2_with fail
  go_loopw [5, 9] (fun s i wr => ∃ (ao : Ptr) (q co j : Nat), s = .slice ao q co ∧ i = .int .i64 j ∧ j ≤ n ∧ q ≤ j ∧ Hid ((delP k (l.take j)).length = q ∧ wr.ownsRow w.heap.size 104 2 (.slice ao q co) q ((delP k (l.take j)).flatMap Pw.c) ∧ w.grownBy wr none)) (fun _ i _ => n - (intOf i).toNat)
  case atStart => exact ⟨none, 0, 0, 0, rfl, rfl, by omega, by omega, Lib.hid ⟨rfl, World.ownsRow_nil _ _ _ _, grown_reflT _ _⟩⟩
  case round =>
    obtain ⟨ao, q, co, j, rfl, rfl, hj, hqj, I⟩ := hrel
    by_cases hlt : j < n
    · obtain ⟨hq, hown, hgr⟩ := I.out
      obtain ⟨b, off, rfl, hb, c0, c1⟩ := (H.out.keep (.of hgr)).at (i := j) (by rw [← Hn.out]; exact hlt)
      have HS1 := Lib.hid (HS.out j hlt wr hgr)
      have HE := Lib.hid (delP_step (k := k) (l := l) (i := j) (by rw [← Hn.out]; exact hlt))
      obtain ⟨x, hx⟩ : ∃ x, x = l.getD j default := ⟨_, rfl⟩
      rw [← hx] at c0 c1 HS1 HE
      clear hx
      obtain ⟨⟨xka, xkc, xkl⟩, ⟨xra, xrc, xrl⟩⟩ := x
      simp only [Rw.v] at c0 c1 HS1
      have D := Lib.hid (And.intro hq (And.intro hown hgr))
      have hB : w.heap.size ≤ wr.heap.size := hgr.size
      have i1 : (j : Int) ≤ cap := by omega
      clear hown hgr I hq
      obtain ⟨y, hy⟩ : ∃ y, y = xkl.length := ⟨_, rfl⟩
      obtain ⟨z, hz⟩ : ∃ z, z = xrl.length := ⟨_, rfl⟩
      have Hy := Lib.hid hy
      have Hz := Lib.hid hz
      rw [← hy] at c0 HS1
      rw [← hz] at c1
      clear hy hz
      by_cases he : rowsOrd xkl k = 0
      · have hb1 : (rowsOrd xkl k == 0) = true := by simp [he]
        rw [hb1] at HS1
        rw [if_pos he, List.append_nil] at HE
        clear hb1 he
        go_wp2_with fail
        refine HS1.out.mono ?_
        rintro e w2 ⟨rfl, hg2⟩
        have G2 := Lib.hid hg2
        clear hg2
        go_wp2_with fail
        go_roundw
        case rel => exact ⟨ao, q, co, j + 1, rfl, by go_num, by omega, by omega, Lib.hid (by rw [HE.out]; exact ⟨D.out.1, World.ownsRow.kept D.out.2.1 G2.out (by cases (Value.slice ao q co).ownBlock <;> simp), D.out.2.2.trans G2.out⟩)⟩
        case measure => simp [intOf]; omega
      · have hb1 : (rowsOrd xkl k == 0) = false := by simp [he]
        rw [hb1] at HS1
        rw [if_neg he] at HE
        clear hb1 he
        have F := Lib.hid (fun (W : World) (hW : wr.grownBy W none) => And.intro (hW.cell c0 (by simp)) (hW.cell c1 (by simp)))
        go_wp2_with fail
        refine HS1.out.mono ?_
        rintro e w2 ⟨rfl, hg2⟩
        have G2 := Lib.hid hg2
        obtain ⟨d0, d1⟩ := F.out _ hg2
        have O2 := Lib.hid (World.ownsRow.kept D.out.2.1 hg2 (by cases (Value.slice ao q co).ownBlock <;> simp))
        have hB2 : w.heap.size ≤ w2.heap.size := Nat.le_trans hB hg2.size
        have hlen := pc_len (delP k (l.take j))
        clear hg2 c0 c1
        go_wp2_with (at_builtin; refine wpList_append_lies _ rfl _ _ 56 rfl w.heap.size 104 i0 (.agg #[.slice none 0 0, .slice none 0 0]) 2 48 Tryz.underlying56 hi hz0 hz1 hz2 rfl (by decide) (.slice ao q co) q ((delP k (l.take j)).flatMap Pw.c) rfl (World.ownsRow.alloc O2.out _) ⟨w2.heap.size, 0, none⟩ 1 1 [.slice xka y xkc, .slice xra z xrc] rfl rfl (two_at (Box2.new w2 _ _ _)) (two_one _ _ _ _ _ _) (by decide) (by unfold maxLen; omega) (by omega) (by simp; omega) _ rfl ?_)
        intro g cp w4 hown4 hgrow4 hgb hg4
        have E4 := Lib.hid (And.intro hown4 hgrow4)
        clear hown4 hgrow4 hgb hg4 hlen
        go_wp2_with fail
        go_roundw
        case rel =>
          obtain ⟨hq, hown, hgr⟩ := D.out
          obtain ⟨hown4, hgrow4⟩ := E4.out
          refine ⟨some ⟨g, 0, none⟩, q + 1, cp, j + 1, rfl, by go_num, by omega, by omega, Lib.hid ⟨by rw [HE.out, List.length_append, hq]; rfl, ?_, ?_⟩⟩
          · rw [HE.out, List.flatMap_append, List.flatMap_cons, List.flatMap_nil, List.append_nil]
            rw [Hy.out, Hz.out] at hown4
            exact hown4
          · exact grown_thenT ((hgr.trans G2.out).trans (World.grownBy_alloc w2 _ none)) hgrow4 (fun b hb => (World.ownsRow.lt hown b hb).1)
        case measure => simp [intOf]; omega
    · obtain rfl : j = n := by omega
      go_wp2_with fail
      go_ret
      obtain ⟨hq, hown, hgr⟩ := I.out
      rw [Hn.out, List.take_of_length_le (Nat.le_refl _)] at hq hown
      exact ⟨⟨_, rfl, by rw [hq]; exact hown⟩, hgr⟩
end Go.Proofs.YtnfpomjcofhppaaGreatDoor
namespace Go.Proofs.YtnfpomjcofhppaaGreatDoor
open Go.RowKit

/-- How many bits a number has. -/
def bitsN (n : Nat) : Nat := if n = 0 then 0 else bitsN (n / 2) + 1
theorem bitsN_zero : bitsN 0 = 0 := by unfold bitsN; simp
theorem bitsN_pos {n : Nat} (h : n ≠ 0) : bitsN n = bitsN (n / 2) + 1 := by
  rw [bitsN, if_neg h]
theorem bitsN_mono : ∀ (m n : Nat), n ≤ m → bitsN n ≤ bitsN m := by
  intro m
  induction m using Nat.strongRecOn with
  | _ m ih =>
    intro n h
    by_cases hn : n = 0
    · subst hn; rw [bitsN_zero]; omega
    · have hm : m ≠ 0 := by omega
      rw [bitsN_pos hn, bitsN_pos hm]
      have := ih (m / 2) (by omega) (n / 2) (by omega)
      omega
theorem bitsN_four {n : Nat} (h : n ≠ 0) : bitsN (4 * n) = bitsN n + 2 := by
  rw [bitsN_pos (by omega), show 4 * n / 2 = 2 * n by omega, bitsN_pos (by omega), show 2 * n / 2 = n by omega]
theorem bitsN_le : ∀ n : Nat, bitsN n ≤ n := by
  intro n
  induction n using Nat.strongRecOn with
  | _ n ih =>
    by_cases h : n = 0
    · subst h; rw [bitsN_zero]; omega
    · rw [bitsN_pos h]
      have := ih (n / 2) (by omega)
      omega
/-- The fewest keys of a height, and one. -/
def fewF : Nat → Nat
  | 0 => 1
  | 1 => 2
  | h + 2 => fewF (h + 1) + fewF h
theorem few_grow : ∀ h, fewF h ≤ fewF (h + 1) ∧ fewF (h + 1) ≤ 2 * fewF h ∧ 3 * fewF h ≤ 2 * fewF (h + 1) ∧ 0 < fewF h
  | 0 => by simp [fewF]
  | h + 1 => by
    have ih := few_grow h
    have e : fewF (h + 1 + 1) = fewF (h + 1) + fewF h := rfl
    rw [e]
    omega
theorem few_bits : ∀ h, 2 * h ≤ 3 * bitsN (fewF h)
  | 0 => by omega
  | 1 => by
    have e : bitsN (fewF 1) = 2 := by simp [fewF, bitsN]
    rw [e]; omega
  | 2 => by
    have e : bitsN (fewF 2) = 2 := by simp [fewF, bitsN]
    rw [e]; omega
  | h + 3 => by
    have ih := few_bits h
    have g0 := few_grow h
    have g1 := few_grow (h + 1)
    have e : fewF (h + 3) = fewF (h + 2) + fewF (h + 1) := rfl
    have e2 : fewF (h + 2) = fewF (h + 1) + fewF h := rfl
    have hm := bitsN_mono (fewF (h + 3)) (4 * fewF h) (by omega)
    rw [bitsN_four (by omega)] at hm
    omega
theorem few_le {K R : Type} : ∀ t : Tr K R, Tr.ok t → fewF t.h ≤ t.n + 1
  | .nil, _ => by simp [Tr.h, Tr.n, fewF]
  | .node l k v r, ⟨h1, h2, h3, h4⟩ => by
    have i1 := few_le l h1
    have i2 := few_le r h2
    simp only [Tr.h, Tr.n]
    by_cases hlr : r.h ≤ l.h
    · rw [show max l.h r.h = l.h by omega]
      by_cases e : l.h = r.h
      · have := few_grow l.h
        have e2 : fewF (l.h + 1) ≤ fewF l.h + fewF l.h := by omega
        rw [← e] at i2
        omega
      · obtain ⟨q, hq⟩ : ∃ q, l.h = q + 1 := ⟨l.h - 1, by omega⟩
        have hr : r.h = q := by omega
        rw [hq] at i1 ⊢
        rw [hr] at i2
        show fewF (q + 1) + fewF q ≤ _
        omega
    · rw [show max l.h r.h = r.h by omega]
      obtain ⟨q, hq⟩ : ∃ q, r.h = q + 1 := ⟨r.h - 1, by omega⟩
      have hr : l.h = q := by omega
      rw [hq] at i2 ⊢
      rw [hr] at i1
      show fewF (q + 1) + fewF q ≤ _
      omega
theorem high {K R : Type} (t : Tr K R) (h : Tr.ok t) : 2 * t.h ≤ 3 * bitsN (t.n + 1) := by
  have h1 := few_bits t.h
  have h2 := bitsN_mono _ _ (few_le t h)
  omega
end Go.Proofs.YtnfpomjcofhppaaGreatDoor
namespace Go.Proofs.YtnfpomjcofhppaaGreatDoor
open Go.RowKit

theorem row1_at (w : World) (T : TypeId) (g : Nat) (x : Vl) (hx : x.s.size ≤ maxLen) (hg : g = w.heap.size) : RowAt (w.alloc (.cells #[.int .i64 x.k, .int .i64 x.n, .string x.s] T)) (some ⟨g, 0, none⟩) [x] := by
  subst hg
  have e := heap_alloc_new w (.cells #[.int .i64 x.k, .int .i64 x.n, .string x.s] T)
  refine ⟨by simp, by simpa using hx, .inr ⟨w.heap.size, 0, rfl, by simp, fun i hi => ?_⟩⟩
  obtain rfl : i = 0 := by simpa using hi
  exact ⟨cell_of_row _ _ _ _ _ _ e, cell_of_row _ _ _ _ _ _ e, cell_of_row _ _ _ _ _ _ e⟩
/-- An int as a value of a row. -/
def viV (n : Int) : Vl := ⟨2, n, ⟨#[]⟩⟩
abbrev cI (n : Int) : Obj := .cells #[.int .i64 2, .int .i64 n, .string ⟨#[]⟩] 74
abbrev Any : Nat → Prop := fun _ => True
theorem put2_any (t : Tre) (p : Ptr) (n a : Int) (w : World) (ht : TrAt Any w t p) (hn : t.n ≤ 1000000000) :
    Makes 67 #[.pointer p, .slice (some ⟨w.heap.size + 1, 0, none⟩) 1 1, .slice (some ⟨w.heap.size + 1 + 1 + 1, 0, none⟩) 1 1] ((((w.alloc (cI n)).alloc (cI n)).alloc (cI a)).alloc (cI a)) (fun W q => TrAt Any W (Tr.put rowsOrd [viV n] [viV a] t) q) := by
  have s1 : (w.alloc (cI n)).heap.size = w.heap.size + 1 := by simp
  have g1 := World.grownBy_alloc w (cI n) none
  generalize w.alloc (cI n) = w1 at *
  have s2 : (w1.alloc (cI n)).heap.size = w.heap.size + 1 + 1 := by simp [s1]
  have g2 := World.grownBy_alloc w1 (cI n) none
  have r2 := row1_at w1 74 (w.heap.size + 1) (viV n) (by show (0 : Nat) ≤ maxLen; exact Nat.zero_le _) s1.symm
  have r2' : RowAt (w1.alloc (cI n)) (some ⟨w.heap.size + 1, 0, none⟩) [viV n] := r2
  clear r2
  generalize w1.alloc (cI n) = w2 at *
  have s3 : (w2.alloc (cI a)).heap.size = w.heap.size + 1 + 1 + 1 := by simp [s2]
  have g3 := World.grownBy_alloc w2 (cI a) none
  generalize w2.alloc (cI a) = w3 at *
  have g4 := World.grownBy_alloc w3 (cI a) none
  have r4 : RowAt (w3.alloc (cI a)) (some ⟨w.heap.size + 1 + 1 + 1, 0, none⟩) [viV a] := row1_at w3 74 (w.heap.size + 1 + 1 + 1) (viV a) (by show (0 : Nat) ≤ maxLen; exact Nat.zero_le _) s3.symm
  exact Put_any Any t p _ _ 1 1 [viV n] [viV a] _ (fun _ _ => trivial) (ht.keep (.of (((g1.trans g2).trans g3).trans g4))) (r2'.keep (below_grownT (g3.trans g4))) r4 (by simp) (by simp) hn
def T71 : Tre := Tr.put rowsOrd [viV 2] [viV (-2)] .nil
def T72 : Tre := Tr.put rowsOrd [viV 1] [viV (-1)] T71
def T73 : Tre := Tr.put rowsOrd [viV 3] [viV (-3)] T72
def T7 (k : Nat) : Tre := if k = 0 then .nil else if k = 1 then T71 else if k = 2 then T72 else T73
theorem T73_is : T73 = .node (.node .nil [viV 1] [viV (-1)] .nil) [viV 2] [viV (-2)] (.node .nil [viV 3] [viV (-3)] .nil) := by
  have h12 : rowsOrd [viV 1] [viV 2] = -1 := by decide +kernel
  have h32 : rowsOrd [viV 3] [viV 2] = 1 := by decide +kernel
  simp [T73, T72, T71, Tr.put, h12, h32, Tr.bal, Tr.h]
theorem T7_n (k : Nat) : (T7 k).n ≤ 1000 := by
  have h1 := Tr.put_n rowsOrd [viV 2] [viV (-2)] .nil
  have h2 := Tr.put_n rowsOrd [viV 1] [viV (-1)] T71
  have h3 := Tr.put_n rowsOrd [viV 3] [viV (-3)] T72
  change T71.n ≤ _ at h1
  change T72.n ≤ _ at h2
  change T73.n ≤ _ at h3
  simp only [Tr.n] at h1
  unfold T7
  split
  · simp [Tr.n]
  · split
    · omega
    · split <;> omega
theorem T73_rows : T73.toL.map Prod.snd = [[viV (-1)], [viV (-2)], [viV (-3)]] := by rw [T73_is]; rfl
theorem T73_h : T73.h = 2 := by rw [T73_is]; rfl
theorem T73_sorted : Tr.Sorted rowsOrd T73.toL := by
  have h12 : rowsOrd [viV 1] [viV 2] = -1 := by decide +kernel
  have h13 : rowsOrd [viV 1] [viV 3] = -1 := by decide +kernel
  have h23 : rowsOrd [viV 2] [viV 3] = -1 := by decide +kernel
  rw [T73_is]
  simp [Tr.toL, Tr.Sorted, h12, h13, h23]
end Go.Proofs.YtnfpomjcofhppaaGreatDoor
