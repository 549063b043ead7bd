/- all: an item for each of the table's columns. A predicate that is copied, node by node: what is there, and what is still to be done. copied: a predicate that shares no list with the one handed in. -/
import Derived.Test.YtjaclmoobfeikaaGreatDoorZl40
import Derived.Deep.RegionHeld
import Derived.Deep.LoopGhost
namespace Go.Proofs.YtjaclmoobfeikaaGreatDoor
open Go.RowKit

/-- The items of all columns. -/
def allI (cs : List Cl) : List Itm := cs.map fun c => ⟨0, c.n, 0⟩
theorem allI_len (cs : List Cl) : (allI cs).length = cs.length := List.length_map _
theorem allI_getD (cs : List Cl) (k : Nat) (h : k < cs.length) : (allI cs).getD k default = ⟨0, (cs.getD k default).n, 0⟩ := by
  rw [List.getD_eq_getElem?_getD, allI, List.getElem?_map, List.getElem?_eq_getElem h, List.getD_eq_getElem?_getD, List.getElem?_eq_getElem h]; rfl
set_option maxHeartbeats 3200000 in
theorem all_anyC (N : ByteArray) (K : Int) (a : Option Addr) (cap : Nat) (cs : List Cl) (w : World) (h : ColsAt w.heap.size w a cs) (hl : cs.length ≤ 1000) :
    Calls Tryz.prog 85 #[.agg #[.string N, .slice a cs.length cap, .int .i64 K], .int .i64 0] w fun e w' => ∃ b cap', e = .returned (.slice b cs.length cap') ∧ Win 3 w' b cap' cs.length ((allI cs).flatMap Itm.c) ∧ (∀ k, bk b k → w.heap.size ≤ k) ∧ w.grownBy w' none := by
  have H := Lib.hid (fun W (hW : w.grownBy W none) => h.keep hW (by simp))
  have HL := Lib.hid (allI_len cs)
  have HX := Lib.hid (allI_getD cs)
  obtain ⟨n, hn⟩ : ∃ n, n = cs.length := ⟨_, rfl⟩
  have Hn := Lib.hid hn
  rw [← hn] at hl HL ⊢
  have G0 := Lib.hid (World.grownBy_alloc w (.cells #[.string N, .slice a n cap, .int .i64 K] 44) none)
  have B0 := heap_alloc_new w (.cells #[.string N, .slice a n cap, .int .i64 K] 44)
  have t1 := cell_of_row _ _ 1 _ _ _ B0
  simp only [List.getElem?_toArray, List.getElem?_cons_zero, List.getElem?_cons_succ] at t1
  clear h hn B0
  go_enter Tryz.func85, Tryz.ntmps85
  go_wp2_with fail
  go_loopw [5, 11] (fun s5 s11 wr => ∃ (k cp : Nat) (b : Ptr), s5 = .slice b k cp ∧ s11 = .int .i64 k ∧ k ≤ n ∧ Hid (Win 3 wr b cp k (((allI cs).take k).flatMap Itm.c) ∧ (∀ j, bk b j → w.heap.size ≤ j) ∧ w.grownBy wr none)) (fun _ s11 _ => n - (intOf s11).toNat)
  case atStart => exact ⟨0, 0, none, rfl, rfl, by omega, Lib.hid ⟨Win.nil 3 _, fun j hj => by simp [bk] at hj, G0.out⟩⟩
  case round =>
    obtain ⟨k, cp, b, rfl, rfl, hk, Q⟩ := hrel
    by_cases hlt : k < n
    · obtain ⟨g, off, rfl, _, c0, c1, c2⟩ := (H.out _ Q.out.2.2).at (i := k) (by rw [← Hn.out]; exact hlt)
      obtain ⟨x, hx⟩ : ∃ x, x = cs.getD k default := ⟨_, rfl⟩
      have hT := flat_take Itm.c (allI cs) k (by rw [HL.out]; exact hlt)
      rw [HX.out k (by rw [← Hn.out]; exact hlt), ← hx] at hT
      rw [← hx] at c0 c1 c2
      have HT := Lib.hid hT
      obtain ⟨xn, xk, xb⟩ := x
      dsimp only at c0 c1 c2
      clear hT hx
      have W3 := Lib.hid (Q.out.1.keepG ((World.grownBy_alloc wr (.cells #[.string xn, .int .i64 xk, .bool xb] 86) none).trans (World.grownBy_alloc _ (.cells #[.int .i64 0, .string xn, .int .i64 0] 65) none)))
      have GG := Lib.hid ((World.grownBy_alloc wr (.cells #[.string xn, .int .i64 xk, .bool xb] 86) none).trans (World.grownBy_alloc _ (.cells #[.int .i64 0, .string xn, .int .i64 0] 65) none))
      go_wp2_with (at_builtin; refine wpList_append_win (by rfl) (.tmp 15) (.tmp 20) itm_el (by rfl) W3.out (by omega) (by rfl) ⟨wr.heap.size + 1, 0, none⟩ 1 (by rfl) [.int .i64 0, .string xn, .int .i64 0] rfl (by
        have := World.news_of_block (heap_alloc_new (wr.alloc (.cells #[.string xn, .int .i64 xk, .bool xb] 86)) (.cells #[.int .i64 0, .string xn, .int .i64 0] 65))
        simpa using this) (by intro u hu; simp only [List.mem_cons, List.not_mem_nil, or_false] at hu; rcases hu with rfl | rfl | rfl <;> rfl) ?_)
      intro b4 cp4 w4 hw4 ho4 hb4
      have E4 := Lib.hid (And.intro hw4 (And.intro ho4 hb4))
      clear hw4 ho4 hb4
      go_wp2_with fail
      go_roundw
      case rel => exact ⟨k + 1, cp4, b4, rfl, by go_num, by omega, Lib.hid (by
        obtain ⟨h1, h2, h3⟩ := E4.out
        obtain ⟨_, hlo, hgr⟩ := Q.out
        refine ⟨by rw [HT.out]; exact h1, fun j hj => ?_, grown_onlyN (hgr.trans GG.out) h2 hlo⟩
        rcases h3 j hj with e | e
        · exact hlo j e
        · have := hgr.size
          have := GG.out.size
          omega)⟩
      case measure => simp [intOf]; omega
    · obtain rfl : k = n := by omega
      go_wp2_with fail
      go_ret
      refine ⟨b, cp, rfl, ?_, Q.out.2.1, Q.out.2.2⟩
      have := Q.out.1
      rwa [List.take_of_length_le (by rw [HL.out]; exact Nat.le_refl _)] at this
end Go.Proofs.YtjaclmoobfeikaaGreatDoor
namespace Go.Proofs.YtjaclmoobfeikaaGreatDoor
open Go.RowKit

/-- A node whose lists aren't copied yet, and where it lies. -/
structure Nd where
  b : Nat
  o : Nat
  x : Pm
def Nd.p (s : Nd) : Value := .pointer (some ⟨s.b, s.o, Option.none⟩)
/-- A copy of q that lies there; its lists are new. -/
def Good (lo : Nat) (W : World) (b o : Nat) (q : Prd) : Prop := ∃ x : Pm, x.e = q ∧ W.rangeAt b o x.c ∧ PmS (fun j => lo + 2 ≤ j) W x
def Cov (st : List Nd) (b o : Nat) : Prop := ∃ s ∈ st, s.b = b ∧ s.o ≤ o ∧ o < s.o + 10
structure Cpy (w0 : World) (q0 : Prd) (TB : Nat → Prop) (st : List Nd) (W : World) : Prop where
  root : ∀ W'', W.heap.size ≤ W''.heap.size → (∀ b o, TB b → ¬ Cov st b o → W''.cell? ⟨b, o, Option.none⟩ = W.cell? ⟨b, o, Option.none⟩) → (∀ s ∈ st, Good w0.heap.size W'' s.b s.o s.x.e) → Good w0.heap.size W'' w0.heap.size 0 q0
  tb : ∀ b, TB b → w0.heap.size ≤ b ∧ b ≠ w0.heap.size + 1 ∧ b < W.heap.size
  nod : ∀ s ∈ st, TB s.b ∧ W.rangeAt s.b s.o s.x.c ∧ PmS (fun j => j < w0.heap.size) w0 s.x ∧ ∀ i, W.frozen? ⟨s.b, i, Option.none⟩ = false
  apart : st.Pairwise fun s t => s.b ≠ t.b ∨ s.o + 10 ≤ t.o ∨ t.o + 10 ≤ s.o
  g : w0.grownBy W Option.none
/-- What is written elsewhere. -/
theorem Cpy.stay {w0 W W' : World} {q0 : Prd} {TB : Nat → Prop} {st : List Nd} (h : Cpy w0 q0 TB st W) (hs : W.heap.size ≤ W'.heap.size) (hb : ∀ b, TB b → W'.heap[b]? = W.heap[b]?) (hg : w0.grownBy W' Option.none) : Cpy w0 q0 TB st W' := by
  have hc : ∀ b o, TB b → W'.cell? ⟨b, o, Option.none⟩ = W.cell? ⟨b, o, Option.none⟩ := fun b o ht => World.cell?_of_block (a := ⟨b, o, Option.none⟩) (hb b ht)
  refine ⟨fun W'' h1 h2 h3 => h.root W'' (by omega) (fun b o ht hn => (h2 b o ht hn).trans (hc b o ht)) h3, fun b ht => ?_, fun s hs => ?_, h.apart, hg⟩
  · have := h.tb b ht
    exact ⟨this.1, this.2.1, by omega⟩
  · obtain ⟨h1, h2, h3, h4⟩ := h.nod s hs
    exact ⟨h1, fun j u hj => (hc _ _ h1).trans (h2 j u hj), h3, fun i => (World.frozen?_of_block (a := ⟨s.b, i, Option.none⟩) (hb s.b h1)).trans (h4 i)⟩
/-- The Kids of a node, where they were copied to. -/
def kidN (kb : Nat) (ks : List Pm) : List Nd := (List.range ks.length).map fun i => ⟨kb, i * 10, ks.getD i default⟩
theorem kidN_len (kb : Nat) (ks : List Pm) : (kidN kb ks).length = ks.length := by simp [kidN]
theorem kidN_mem {kb : Nat} {ks : List Pm} {s : Nd} (h : s ∈ kidN kb ks) : ∃ i, i < ks.length ∧ s = ⟨kb, i * 10, ks.getD i default⟩ := by
  obtain ⟨i, hi, rfl⟩ := List.mem_map.1 h
  exact ⟨i, List.mem_range.1 hi, rfl⟩
theorem kidN_at {kb : Nat} {ks : List Pm} {i : Nat} (h : i < ks.length) : (⟨kb, i * 10, ks.getD i default⟩ : Nd) ∈ kidN kb ks := List.mem_map.2 ⟨i, List.mem_range.2 h, rfl⟩
theorem kidN_take {kb : Nat} {ks : List Pm} {i : Nat} (h : i < ks.length) : (kidN kb ks).take (i + 1) = (kidN kb ks).take i ++ [⟨kb, i * 10, ks.getD i default⟩] := by
  unfold kidN
  rw [List.take_add_one, List.getElem?_map, List.getElem?_range h]; rfl
theorem good_list {lo : Nat} {W : World} {kb : Nat} : ∀ (ks : List Pm) (o : Nat), (∀ i, i < ks.length → Good lo W kb (o + i * 10) (ks.getD i default).e) → ∃ l : List Pm, Pm.es l = Pm.es ks ∧ l.length = ks.length ∧ PmSs (fun j => lo + 2 ≤ j) W l ∧ ∀ j u, (l.flatMap Pm.c)[j]? = some u → W.cell? ⟨kb, o + j, Option.none⟩ = some u
  | [], _, _ => ⟨[], rfl, rfl, trivial, fun j u h => by simp at h⟩
  | k :: ks, o, h => by
    obtain ⟨x, h1, h2, h3⟩ := h 0 (by simp)
    obtain ⟨l, g1, g2, g3, g4⟩ := good_list ks (o + 10) (fun i hi => by
      have := h (i + 1) (by simpa using hi)
      rw [show o + 10 + i * 10 = o + (i + 1) * 10 by omega]
      simpa using this)
    refine ⟨x :: l, by rw [Pm.es, Pm.es, g1, h1]; rfl, by simp [g2], ⟨h3, g3⟩, fun j u hj => ?_⟩
    rw [List.flatMap_cons] at hj
    by_cases hlt : j < 10
    · rw [List.getElem?_append_left (by rw [Pm.c_len]; exact hlt)] at hj
      simpa using h2 j u hj
    · rw [List.getElem?_append_right (by rw [Pm.c_len]; omega), Pm.c_len] at hj
      have := g4 _ u hj
      rwa [show o + 10 + (j - 10) = o + j by omega] at this
/-- A node's lists are copied; its Kids are what is still to be done. -/
theorem Cpy.step {w0 W W5 : World} {q0 : Prd} {TB : Nat → Prop} {st : List Nd} {s : Nd} {k : Nat} {c : ByteArray} {r : Nat} {v : Vl} {o : ByteArray} {la ka : Ptr} {lc kc : Nat} {l : List Vl} {ks : List Pm} {p : Nat}
    (h : Cpy w0 q0 TB (st ++ [s]) W) (hx : s.x = .mk k c r v o la lc l ka kc ks p) {a1 a2 : Ptr} {c1 c2 kb : Nat}
    (hs : W.heap.size ≤ W5.heap.size) (h0 : w0.heap.size + 2 ≤ W.heap.size) (hblk : ∀ b, TB b → b ≠ s.b → W5.heap[b]? = W.heap[b]?)
    (hcell : ∀ i, i ≠ s.o + 7 → i ≠ s.o + 8 → W5.cell? ⟨s.b, i, Option.none⟩ = W.cell? ⟨s.b, i, Option.none⟩)
    (h7 : W5.cell? ⟨s.b, s.o + 7, Option.none⟩ = some (.slice a1 l.length c1)) (h8 : W5.cell? ⟨s.b, s.o + 8, Option.none⟩ = some (.slice a2 ks.length c2))
    (hfr : ∀ i, W5.frozen? ⟨s.b, i, Option.none⟩ = false)
    (o1 : RwS (fun j => W.heap.size ≤ j ∧ j ≠ kb) W5 a1 l) (l1 : l.length ≤ c1) (l2 : ks.length ≤ c2)
    (o2 : ks = [] ∨ a2 = some ⟨kb, 0, Option.none⟩ ∧ W.heap.size ≤ kb ∧ kb < W5.heap.size ∧ (∀ j u, (ks.flatMap Pm.c)[j]? = some u → W5.cell? ⟨kb, j, Option.none⟩ = some u) ∧ ∀ i, W5.frozen? ⟨kb, i, Option.none⟩ = false)
    (hg : w0.grownBy W5 Option.none) : Cpy w0 q0 (fun b => TB b ∨ (W.heap.size ≤ b ∧ b < W5.heap.size ∧ (bk a1 b ∨ (b = kb ∧ ks ≠ [])))) (st ++ kidN kb ks) W5 := by
  have hn := h.nod s (by simp)
  have hap := h.apart
  rw [List.pairwise_append] at hap
  obtain ⟨ap1, _, ap2⟩ := hap
  have hold : ∀ b i, TB b → ¬ Cov [s] b i → W5.cell? ⟨b, i, Option.none⟩ = W.cell? ⟨b, i, Option.none⟩ := fun b i ht hc => by
    by_cases e : b = s.b
    · subst e
      exact hcell i (fun e => hc ⟨s, by simp, rfl, by omega, by omega⟩) (fun e => hc ⟨s, by simp, rfl, by omega, by omega⟩)
    · exact World.cell?_of_block (a := ⟨b, i, Option.none⟩) (hblk b ht e)
  have hnew : ∀ b i, TB b → ¬ Cov (kidN kb ks) b i := fun b i ht ⟨t, h1, h2, _⟩ => by
    obtain ⟨j, hj, rfl⟩ := kidN_mem h1
    have := (h.tb b ht).2.2
    rcases o2 with e | ⟨_, h3, _⟩
    · rw [e] at hj; simp at hj
    · have h2 : kb = b := h2
      omega
  have hkk : ∀ t ∈ kidN kb ks, ks ≠ [] ∧ t.b = kb := fun t ht => by
    obtain ⟨j, hj, rfl⟩ := kidN_mem ht
    exact ⟨fun e => by rw [e] at hj; simp at hj, rfl⟩
  refine ⟨fun W'' w1 w2 w3 => ?_, fun b hb => ?_, fun t ht => ?_, ?_, hg⟩
  · refine h.root W'' (by omega) (fun b i ht hc => ?_) (fun t ht => ?_)
    · have hc1 : ¬ Cov [s] b i := fun ⟨t, h1, h2⟩ => hc ⟨t, by simp at h1; simp [h1], h2⟩
      rw [w2 b i (.inl ht) (fun ⟨t, h1, h2⟩ => by
        rcases List.mem_append.1 h1 with h1 | h1
        · exact hc ⟨t, by simp [h1], h2⟩
        · exact hnew b i ht ⟨t, h1, h2⟩)]
      exact hold b i ht hc1
    · rcases List.mem_append.1 ht with ht | ht
      · exact w3 t (by simp [ht])
      · obtain rfl : t = s := by simpa using ht
        have cov0 : ∀ i, ¬ Cov (st ++ kidN kb ks) t.b i ∨ ¬ (t.o ≤ i ∧ i < t.o + 10) := fun i => by
          by_cases hi : t.o ≤ i ∧ i < t.o + 10
          · left
            rintro ⟨u, h1, h2, h3, h4⟩
            rcases List.mem_append.1 h1 with h1 | h1
            · rcases ap2 u h1 t (by simp) with e | e | e
              · exact e h2
              · omega
              · omega
            · exact hnew t.b i hn.1 ⟨u, h1, h2, h3, h4⟩
          · exact .inr hi
        have hcells : ∀ i, t.o ≤ i → i < t.o + 10 → W''.cell? ⟨t.b, i, Option.none⟩ = W5.cell? ⟨t.b, i, Option.none⟩ := fun i h1 h2 =>
          w2 t.b i (.inl hn.1) ((cov0 i).resolve_right (fun e => e ⟨h1, h2⟩))
        have hkids : ∃ l' : List Pm, Pm.es l' = Pm.es ks ∧ l'.length = ks.length ∧ PmSs (fun j => w0.heap.size + 2 ≤ j) W'' l' ∧ CellsS (fun j => w0.heap.size + 2 ≤ j) W'' a2 (l'.flatMap Pm.c) := by
          rcases o2 with e | ⟨e, h3, h4, _, _⟩
          · exact ⟨[], by rw [e], by rw [e], trivial, .inl rfl⟩
          · obtain ⟨l', g1, g2, g3, g4⟩ := good_list (lo := w0.heap.size) (W := W'') (kb := kb) ks 0 (fun i hi => by
              have := w3 _ (List.mem_append.2 (.inr (kidN_at (kb := kb) hi)))
              simpa using this)
            exact ⟨l', g1, g2, g3, .inr ⟨kb, 0, e, by omega, by omega, g4⟩⟩
        obtain ⟨l', g1, g2, g3, g4⟩ := hkids
        have hr := hn.2.1
        refine ⟨.mk k c r v o a1 c1 l a2 c2 l' p, by rw [hx, Pm.e, Pm.e, g1], fun j u hj => ?_, ?_, l1, g4, by omega, g3⟩
        · have hj10 : j < 10 := by have := (List.getElem?_eq_some_iff.1 hj).1; rwa [Pm.c_len] at this
          rw [hcells _ (by omega) (by omega)]
          by_cases e7 : j = 7
          · subst e7
            rw [h7]
            simpa [Pm.c] using hj
          · by_cases e8 : j = 8
            · subst e8
              rw [h8]
              simpa [Pm.c, g2] using hj
            · rw [hcell _ (by omega) (by omega)]
              refine hr j u ?_
              rw [hx]
              match j, e7, e8, hj10, hj with
              | 0, _, _, _, hj => exact hj
              | 1, _, _, _, hj => exact hj
              | 2, _, _, _, hj => exact hj
              | 3, _, _, _, hj => exact hj
              | 4, _, _, _, hj => exact hj
              | 5, _, _, _, hj => exact hj
              | 6, _, _, _, hj => exact hj
              | 9, _, _, _, hj => exact hj
        · refine ⟨o1.1, o1.2.1, o1.2.2.imp id fun ⟨b, off, e, ⟨hb1, hb2⟩, hlt, hc⟩ => ⟨b, off, e, by omega, by omega, fun i hi => ?_⟩⟩
          have hnc : ∀ i, ¬ Cov (st ++ kidN kb ks) b i := fun i ⟨u, h1, h2, _⟩ => by
            rcases List.mem_append.1 h1 with h1 | h1
            · have := (h.tb u.b (h.nod u (by simp [h1])).1).2.2
              omega
            · exact hb2 (h2.symm.trans (hkk u h1).2)
          have hw := fun i => w2 b i (.inr ⟨hb1, hlt, .inl (by rw [e, bk_some])⟩) (hnc i)
          exact ⟨(hw _).trans (hc i hi).1, (hw _).trans (hc i hi).2.1, (hw _).trans (hc i hi).2.2⟩
  · rcases hb with hb | ⟨h1, h2, _⟩
    · have := h.tb b hb
      exact ⟨this.1, this.2.1, by omega⟩
    · exact ⟨by omega, by omega, h2⟩
  · rcases List.mem_append.1 ht with ht | ht
    · obtain ⟨n1, n2, n3, n4⟩ := h.nod t (by simp [ht])
      refine ⟨.inl n1, fun j u hj => ?_, n3, fun i => ?_⟩
      · rw [hold _ _ n1 (fun ⟨u', h1, h2, h3, h4⟩ => by
          obtain rfl : u' = s := by simpa using h1
          have hj10 : j < 10 := by have := (List.getElem?_eq_some_iff.1 hj).1; rwa [Pm.c_len] at this
          rcases ap2 t ht u' (by simp) with e | e | e
          · exact e h2.symm
          · omega
          · omega)]
        exact n2 j u hj
      · by_cases e : t.b = s.b
        · rw [e]; exact hfr i
        · exact (World.frozen?_of_block (a := ⟨t.b, i, Option.none⟩) (hblk t.b n1 e)).trans (n4 i)
    · obtain ⟨j, hj, rfl⟩ := kidN_mem ht
      rcases o2 with e | ⟨e, h3, h4, h5, h6⟩
      · rw [e] at hj; simp at hj
      · refine ⟨.inr ⟨h3, h4, .inr ⟨rfl, fun e => by rw [e] at hj; simp at hj⟩⟩, fun i u hi => h5 _ _ (pm_at ks j hj i u hi), ?_, h6⟩
        have hp := hn.2.2.1
        rw [hx] at hp
        exact (PmSs_iff ks).1 hp.2.2.2.2 _ (getD_memT ks j hj)
  · rw [List.pairwise_append]
    refine ⟨ap1, ?_, fun t ht u hu => ?_⟩
    · unfold kidN
      rw [List.pairwise_map]
      refine List.pairwise_lt_range.imp fun {i j} hij => ?_
      right; left
      show i * 10 + 10 ≤ j * 10
      omega
    · left
      obtain ⟨j, hj, rfl⟩ := kidN_mem hu
      have := (h.tb t.b (h.nod t (by simp [ht])).1).2.2
      rcases o2 with e | ⟨_, h3, _⟩
      · rw [e] at hj; simp at hj
      · intro e
        have e : t.b = kb := e
        omega
end Go.Proofs.YtjaclmoobfeikaaGreatDoor
namespace Go.Proofs.YtjaclmoobfeikaaGreatDoor
open Go.RowKit

theorem ptr_infoY : (Tryz.prog.info? 196).map (fun i => (i.zero, i.size, i.bytes)) = some (some (.pointer none), 1, 8) := by kernel_rfl
theorem ptr_el : ElT 197 196 (.pointer none) 1 8 := ⟨Tryz.underlying197, info_partsT ptr_infoY, by decide, by decide, by decide⟩
theorem own_kids {w : World} {B : Nat} {T : TypeId} {a : Ptr} {n cap sz : Nat} {xs : List Value} (h : w.ownsRow B T sz (.slice a n cap) n xs) : n = 0 ∨ ∃ kb, a = some ⟨kb, 0, Option.none⟩ ∧ B ≤ kb ∧ kb < w.heap.size ∧ (∀ j u, xs[j]? = some u → w.cell? ⟨kb, j, Option.none⟩ = some u) ∧ ∀ i, w.frozen? ⟨kb, i, Option.none⟩ = false := by
  rcases h.2 with ⟨_, h0⟩ | ⟨g, cap', cur, hv, hb, hg, _, _, _, _⟩
  · exact .inl h0
  · cases hv
    refine .inr ⟨g, rfl, hb, (Array.getElem?_eq_some_iff.1 hg).1, fun j u hj => ?_, fun i => frozen_of_row _ _ i _ _ hg⟩
    have := h.cells (g := g) rfl j u hj
    rwa [add_atT, Nat.zero_add] at this
theorem fews_mem : ∀ ks : List Pm, Prd.fews (Pm.es ks) → ∀ t ∈ ks, t.e.few
  | [], _, t, ht => by simp at ht
  | y :: r, h, t, ht => by
    rw [Pm.es, Prd.fews] at h
    rcases List.mem_cons.1 ht with rfl | ht
    · exact h.1
    · exact fews_mem r h.2 t ht
theorem kidN_x (kb : Nat) (ks : List Pm) : (kidN kb ks).map Nd.x = ks := by
  refine List.ext_getElem (by simp [kidN]) fun i h1 h2 => ?_
  simp [kidN, h2]
/-- The stack of nodes in memory, and all that is there. -/
structure CpS (w : World) (X : Pm) (TB : Nat → Prop) (st : List Nd) (a : Ptr) (n cap : Nat) (stk : List Nd) (W : World) : Prop where
  len : n = stk.length
  win : Win 1 W a cap n (stk.map Nd.p)
  low : ∀ j, bk a j → w.heap.size + 2 ≤ j ∧ ¬ TB j
  cpy : Cpy w X.e TB st W
  res : W.heap[w.heap.size + 1]? = some (.cells z10 33 (0, 0))
theorem CpS.push {w W w4 : World} {X : Pm} {TB : Nat → Prop} {st : List Nd} {a a4 : Ptr} {n cap cap4 : Nat} {stk : List Nd} {o : Obj} {s : Nd} (h : CpS w X TB st a n cap stk W) (h1 : Win 1 w4 a4 cap4 (n + 1) (stk.map Nd.p ++ [s.p])) (h2 : Only (bk a) (W.alloc o) w4) (h3 : ∀ k, bk a4 k → bk a k ∨ (W.alloc o).heap.size ≤ k) : CpS w X TB st a4 (n + 1) cap4 (stk ++ [s]) w4 := by
  have hg := World.grownBy_alloc W o Option.none
  have hs := hg.size
  have hs2 := h2.size
  have h0 := h.cpy.g.size
  have hr := (Array.getElem?_eq_some_iff.1 h.res).1
  have hb : ∀ b, TB b → w4.heap[b]? = W.heap[b]? := fun b ht => (h2.block b (by have := (h.cpy.tb b ht).2.2; omega) (fun e => (h.low b e).2 ht)).trans (hg.block b (h.cpy.tb b ht).2.2 (by simp))
  refine ⟨by rw [h.len]; simp, by simpa using h1, fun j hj => ?_, h.cpy.stay (by omega) hb (grown_onlyN (h.cpy.g.trans hg) h2 (fun k hk => by have := (h.low k hk).1; omega)), ?_⟩
  · rcases h3 j hj with e | e
    · exact h.low j e
    · exact ⟨by omega, fun ht => by have := (h.cpy.tb j ht).2.2; omega⟩
  · exact ((h2.block _ (by omega) (fun e => by have := (h.low _ e).1; omega)).trans (hg.block _ hr (by simp))).trans h.res
set_option maxRecDepth 100000 in
set_option maxHeartbeats 12800000 in
theorem copied_any (X : Pm) (w : World) (hX : PmS (fun j => j < w.heap.size) w X) (hn : X.n ≤ 1000) (hf : X.e.few) :
    Calls Tryz.prog 86 #[X.v] w fun e w' => ∃ x : Pm, e = .returned (.agg x.c.toArray) ∧ x.e = X.e ∧ PmS (fun j => w.heap.size ≤ j) w' x ∧ w.grownBy w' none := by
  have HV := Lib.hid (fun a cap l W (h : CellsS (fun _ => True) W a (l.flatMap Vl.cc)) (hl : l.length ≤ 1000) => cloneVal_any (fun _ => True) a cap l W h hl)
  have HPm := Lib.hid (fun a cap l W (h : CellsS (fun _ => True) W a (l.flatMap Pm.c)) (hl : l.length ≤ 1000) => clonePm_any (fun _ => True) a cap l W h hl)
  have s0 : (((w.alloc (.cells X.c.toArray 33)).alloc (.cells z10 33)).alloc (.cells #[.pointer (some ⟨w.heap.size, 0, none⟩)] 196)).heap.size = w.heap.size + 3 := by simp
  have H0 : Hid (CpS w X (fun b => b = w.heap.size) [⟨w.heap.size, 0, X⟩] (some ⟨w.heap.size + 2, 0, none⟩) 1 1 [⟨w.heap.size, 0, X⟩] (((w.alloc (.cells X.c.toArray 33)).alloc (.cells z10 33)).alloc (.cells #[.pointer (some ⟨w.heap.size, 0, none⟩)] 196))) := Lib.hid (by
    have g1 := World.grownBy_alloc w (.cells X.c.toArray 33) none
    have b1 := heap_alloc_new w (.cells X.c.toArray 33)
    have g2 := World.grownBy_alloc (w.alloc (.cells X.c.toArray 33)) (.cells z10 33) none
    have b2 := heap_alloc_new (w.alloc (.cells X.c.toArray 33)) (.cells z10 33)
    have g3 := World.grownBy_alloc ((w.alloc (.cells X.c.toArray 33)).alloc (.cells z10 33)) (.cells #[.pointer (some ⟨w.heap.size, 0, none⟩)] 196) none
    have b1' := blk_grown (g2.trans g3) b1
    have b2' := blk_grown g3 b2
    rw [show (w.alloc (.cells X.c.toArray 33)).heap.size = w.heap.size + 1 by simp] at b2'
    obtain ⟨a, cap, hv, hw, _⟩ := own_win (World.ownsRow_lit (base := w.heap.size) (e := 196) (size := 1) ((w.alloc (.cells X.c.toArray 33)).alloc (.cells z10 33)) #[.pointer (some ⟨w.heap.size, 0, none⟩)] 1 (by simp; omega) (by decide) rfl)
    cases hv
    refine ⟨rfl, by simpa [Nd.p] using hw, fun j hj => ?_, ⟨fun W'' _ _ h3 => h3 ⟨w.heap.size, 0, X⟩ (by simp), fun b hb => ?_, fun s hs => ?_, List.pairwise_singleton _ _, (g1.trans g2).trans g3⟩, b2'⟩
    · rw [bk_some] at hj; omega
    · subst hb; rw [s0]; omega
    · obtain rfl : s = ⟨w.heap.size, 0, X⟩ := by simpa using hs
      refine ⟨rfl, fun j u hj => ?_, hX, fun i => frozen_of_row _ _ i _ _ b1'⟩
      rw [Nat.zero_add, cell_of_row _ _ j _ _ _ b1', List.getElem?_toArray]; exact hj)
  have HN : Hid (Pm.ns ([(⟨w.heap.size, 0, X⟩ : Nd)].map Nd.x) ≤ 1000) := Lib.hid (by simp [Pm.ns]; exact hn)
  have HFw : Hid (∀ s ∈ [(⟨w.heap.size, 0, X⟩ : Nd)], s.x.e.few) := Lib.hid (fun s hs => by
    obtain rfl : s = ⟨w.heap.size, 0, X⟩ := by simpa using hs
    exact hf)
  have hX1 := X.c_size
  have hX2 := X.c_all
  unfold Pm.v
  obtain ⟨cx, hcx⟩ : ∃ cx, cx = X.c.toArray := ⟨_, rfl⟩
  rw [← hcx] at hX1 hX2 H0 ⊢
  clear hX hn hf hcx s0
  go_enter Tryz.func86, Tryz.ntmps86
  go_wp2_with fail
  obtain ⟨W, hW⟩ : ∃ W, W = (((w.alloc (.cells cx 33)).alloc (.cells z10 33)).alloc (.cells #[.pointer (some ⟨w.heap.size, 0, none⟩)] 196)) := ⟨_, rfl⟩
  rw [← hW] at H0
  change Code.wp _ _ _ _ (((w.alloc (.cells cx 33)).alloc (.cells z10 33)).alloc (.cells #[.pointer (some ⟨w.heap.size, 0, none⟩)] 196))
  rw [← hW]
  clear hW hX1 hX2
  go_loopg [3] 1000 (fun μ s3 wr => ∃ (a : Ptr) (n cap : Nat), s3 = .slice a n cap ∧ n ≤ cap ∧ n ≤ 1000 ∧ Hid (∃ st TB, CpS w X TB st a n cap st wr ∧ Pm.ns (st.map Nd.x) ≤ μ ∧ μ ≤ 1000 ∧ ∀ s ∈ st, s.x.e.few))
  case atStart => exact ⟨_, 1, 1, rfl, by omega, by omega, Lib.hid ⟨_, _, H0.out, HN.out, Nat.le_refl _, HFw.out⟩⟩
  case round =>
    obtain ⟨a, n, cap, rfl, hnc, hn3, H⟩ := hrel
    clear H0 HN HFw
    by_cases h0 : n = 0
    · subst h0
      obtain ⟨st, TB, hC, _⟩ := H.out
      obtain rfl := List.eq_nil_of_length_eq_zero hC.len.symm
      obtain ⟨x, hx, hr, hp⟩ := hC.cpy.root wr (Nat.le_refl _) (fun _ _ _ _ => rfl) (fun s hs => by simp at hs)
      have RX := Lib.hid hr
      have HB := Lib.hid hC.res
      have HX := Lib.hid (And.intro hx (And.intro hp hC.cpy.g))
      clear hC hx hr hp H
      go_wp2_with (first
        | (refine wpList_load_mid rfl 33 (.tmp 1) rfl w.heap.size 0 rfl x.c _ RX.out Tryz.underlying33 rfl (by rw [Pm.c_len]; exact pred_size) ?_)
        | (refine wpList_store_row rfl 33 (.tmp 2) (.tmp 55) rfl (w.heap.size + 1) x.c.toArray rfl rfl 33 z10 HB.out (by rw [Pm.c_size]; exact pred_size) (by rw [Pm.c_size]; rfl) (Pm.c_all _) ?_))
      have hS := grown_setRow wr (w.heap.size + 1) x.c.toArray
      have hR := setRow_heap wr (w.heap.size + 1) z10 x.c.toArray _ _ HB.out
      obtain ⟨hx, hp, hg⟩ := HX.out
      have fin : ∃ x' : Pm, Ending.returned (.agg x.c.toArray) = .returned (.agg x'.c.toArray) ∧ x'.e = X.e ∧ PmS (fun j => w.heap.size ≤ j) (wr.setRow (w.heap.size + 1) x.c.toArray) x' ∧ w.grownBy (wr.setRow (w.heap.size + 1) x.c.toArray) none :=
        ⟨x, rfl, hx, (hp.keep (w' := wr.setRow (w.heap.size + 1) x.c.toArray) ⟨hS.size, fun b hb hlt => hS.block b hlt (by simp; omega)⟩).mono (fun b _ hb => by omega), grown_thenX hg hS (fun j e => by cases e; omega)⟩
      exact bodyPost_ret (results_pm rfl _ _ (w.heap.size + 1) x rfl hR) rfl fin
    · obtain ⟨m', rfl⟩ : ∃ m', n = m' + 1 := ⟨n - 1, by omega⟩
      clear h0
      obtain ⟨st, s, TB, hC, hμ, hμ2, hfw⟩ : ∃ st s TB, CpS w X TB (st ++ [s]) a (m' + 1) cap (st ++ [s]) wr ∧ Pm.ns ((st ++ [s]).map Nd.x) ≤ gk ∧ gk ≤ 1000 ∧ ∀ t ∈ st ++ [s], t.x.e.few := by
        obtain ⟨st, TB, h1, h2, h3, h4⟩ := H.out
        rcases List.eq_nil_or_concat st with rfl | ⟨s0, p, rfl⟩
        · have := h1.len; simp at this
        · exact ⟨s0, p, TB, by simpa using h1, by simpa using h2, h3, by simpa using h4⟩
      obtain ⟨sb, so, sx⟩ := s
      obtain ⟨k1, c1, rr1, v1, o1, la, lc, li, ka, kc, ks, pp1⟩ := sx
      obtain ⟨hT, hR, hP, hF⟩ := hC.cpy.nod ⟨sb, so, .mk k1 c1 rr1 v1 o1 la lc li ka kc ks pp1⟩ (by simp)
      dsimp only at hT hR hP hF
      have hst : m' = st.length := by have := hC.len; simp at this; omega
      obtain ⟨ag, ao, rfl, hc, _, _⟩ := hC.win.mem.resolve_left (by omega)
      have cT : wr.cell? ⟨ag, ao + m', none⟩ = some (.pointer (some ⟨sb, so, none⟩)) := hc _ _ (by
        rw [List.map_append, List.getElem?_append_right (by rw [List.length_map, hst]; exact Nat.le_refl _), List.length_map, hst, Nat.sub_self]; rfl)
      have r7 : wr.cell? ⟨sb, so + 7, none⟩ = some (.slice la li.length lc) := hR 7 _ rfl
      have r8 : wr.cell? ⟨sb, so + 8, none⟩ = some (.slice ka ks.length kc) := hR 8 _ rfl
      have f7 := hF (so + 7)
      have f8 := hF (so + 8)
      have hns : Pm.ns (st.map Nd.x) + (1 + Pm.ns ks) ≤ gk := by
        have := hμ
        rw [List.map_append, Pm.ns_app] at this
        simpa [Pm.ns, Pm.n] using this
      have hkl := Pm.len_ns ks
      have hst2 := Pm.len_ns (st.map Nd.x)
      rw [List.length_map] at hst2
      have hfx : li.length ≤ 12 ∧ ∀ t ∈ ks, t.e.few := by
        have := hfw ⟨sb, so, .mk k1 c1 rr1 v1 o1 la lc li ka kc ks pp1⟩ (by simp)
        dsimp only at this
        rw [Pm.e, Prd.few] at this
        exact ⟨this.1, fews_mem ks this.2⟩
      have HV1 := Lib.hid (fun W (hW : wr.grownBy W none) => HV.out la lc li W (((hP.1.cellsV).keep (.of (hC.cpy.g.trans hW))).mono (fun _ _ _ => trivial)) (by have := hfx.1; omega))
      have HP1 := Lib.hid (fun W (hW : wr.grownBy W none) => HPm.out ka kc ks W ((hP.2.2.1.keep (.of (hC.cpy.g.trans hW))).mono (fun _ _ _ => trivial)) (by omega))
      have HRw := Lib.hid (And.intro hP.1.1 hP.1.2.1)
      obtain ⟨ln, hln⟩ : ∃ ln, ln = li.length := ⟨_, rfl⟩
      obtain ⟨kn, hkn⟩ : ∃ kn, kn = ks.length := ⟨_, rfl⟩
      rw [← hln] at HV1 r7
      rw [← hkn] at HP1 r8 hkl
      have Hln := Lib.hid hln
      have Hkn := Lib.hid hkn
      have HC := Lib.hid hC
      have HQ := Lib.hid (And.intro hT (And.intro hst (And.intro hns (And.intro hμ2 (And.intro hfw hfx.2)))))
      have hlast := (Array.getElem?_eq_some_iff.1 hC.res).1
      have HLast := Lib.hid hlast
      have hwm : IntKind.i64.wrap (m' : Int) = m' := IntWalk.i64_in _ (by omega)
      have hmc : m' ≤ cap := by omega
      have hkn2 : kn ≤ 1000 := by omega
      have hm2 : m' + kn ≤ 2000 := by omega
      clear hC hT hR hP hF hst hc hns hkl hst2 hfx hln hkn H hμ hμ2 hfw hlast
      go_upto_region 5 with fail
      refine wp_region_held_drew (S := (fun _ => True)) (by kernel_rfl) trivial (fun hHeld => ?_)
      refine wpAnyH_take (i := 0) (v := ?v0z1) rfl (by kernel_rfl) (by kernel_rfl) (by kernel_rfl) (fun _ _ _ h => h) (Or.inl ⟨by rfl, ?y0z1⟩) (by assumption) ?r0z1
      case y0z1 => (intro w hSw; (try dsimp only at hSw); go_simp; try with_reducible rfl)
      simp only [Act.put, List.getElem_toArray, List.getElem_cons_zero, List.size_toArray, List.length_cons, List.length_nil, Nat.reduceAdd, Array.replicate, List.replicate, List.setIfInBounds_toArray, List.set_cons_zero, List.set_cons_succ]
      refine wpAnyH_take (i := 1) (v := ?v1z2) rfl (by kernel_rfl) (by kernel_rfl) (by kernel_rfl) (fun _ _ _ h => h) (Or.inl ⟨by rfl, ?y1z2⟩) (by assumption) ?r1z2
      case y1z2 => (intro w hSw; (try dsimp only at hSw); go_simp; try with_reducible rfl)
      simp only [Act.put, List.getElem_toArray, List.getElem_cons_succ, List.getElem_cons_zero, List.setIfInBounds_toArray, List.set_cons_zero, List.set_cons_succ]
      refine wpAnyH_take (i := 2) (v := ?v2z3) rfl (by kernel_rfl) (by kernel_rfl) (by kernel_rfl) (fun _ _ _ h => h) (Or.inl ⟨by rfl, ?y2z3⟩) (by assumption) ?r2z3
      case y2z3 => (intro w hSw; (try dsimp only at hSw); go_simp; try with_reducible rfl)
      simp only [Act.put, List.getElem_toArray, List.getElem_cons_succ, List.getElem_cons_zero, List.setIfInBounds_toArray, List.set_cons_zero, List.set_cons_succ]
      refine wpAnyH_take (i := 3) (v := ?v3z4) rfl (by kernel_rfl) (by kernel_rfl) (by kernel_rfl) (fun _ _ _ h => h) (Or.inl ⟨by rfl, ?y3z4⟩) (by assumption) ?r3z4
      case y3z4 => (intro w hSw; (try dsimp only at hSw); go_simp; try with_reducible rfl)
      simp only [Act.put, List.getElem_toArray, List.getElem_cons_succ, List.getElem_cons_zero, List.setIfInBounds_toArray, List.set_cons_zero, List.set_cons_succ]
      refine wpAnyH_take (i := 4) (v := ?v4z5) rfl (by kernel_rfl) (by kernel_rfl) (by kernel_rfl) (fun _ _ _ h => h) (Or.inl ⟨by rfl, ?y4z5⟩) (by assumption) ?r4z5
      case y4z5 => (intro w hSw; (try dsimp only at hSw); go_simp; try with_reducible rfl)
      simp only [Act.put, List.getElem_toArray, List.getElem_cons_succ, List.getElem_cons_zero, List.setIfInBounds_toArray, List.set_cons_zero, List.set_cons_succ]
      refine wpAnyH_take (i := 7) (v := ?v7z6) rfl (by kernel_rfl) (by kernel_rfl) (by kernel_rfl) (fun _ _ _ h => h) (Or.inl ⟨by rfl, ?y7z6⟩) (by assumption) ?r7z6
      case y7z6 => (intro w hSw; (try dsimp only at hSw); go_simp; try with_reducible rfl)
      simp only [Act.put, List.getElem_toArray, List.getElem_cons_succ, List.getElem_cons_zero, List.setIfInBounds_toArray, List.set_cons_zero, List.set_cons_succ]
      refine wpAnyH_take (i := 8) (v := ?v8z7) rfl (by kernel_rfl) (by kernel_rfl) (by kernel_rfl) (fun _ _ _ h => h) (Or.inl ⟨by rfl, ?y8z7⟩) (by assumption) ?r8z7
      case y8z7 => (intro w hSw; (try dsimp only at hSw); go_simp; try with_reducible rfl)
      simp only [Act.put, List.getElem_toArray, List.getElem_cons_succ, List.getElem_cons_zero, List.setIfInBounds_toArray, List.set_cons_zero, List.set_cons_succ]
      refine wpAnyH_take (i := 9) (v := ?v9z8) rfl (by kernel_rfl) (by kernel_rfl) (by kernel_rfl) (fun _ _ _ h => h) (Or.inl ⟨by rfl, ?y9z8⟩) (by assumption) ?r9z8
      case y9z8 => (intro w hSw; (try dsimp only at hSw); go_simp; try with_reducible rfl)
      simp only [Act.put, List.getElem_toArray, List.getElem_cons_succ, List.getElem_cons_zero, List.setIfInBounds_toArray, List.set_cons_zero, List.set_cons_succ]
      refine wpAnyH_ready (rs := [5, 10]) (by kernel_rfl) (by simp) ?_
      refine (AllReadyH.cons rfl (fun K' hK => ?_) (AllReadyH.cons rfl (fun K' hK => ?_) AllReadyH.nil))
      · go_simp
        skip
        refine hK.out _ _ trivial (fun hHeld => ?_)
        clear hK K'
        simp only [List.setIfInBounds_toArray, List.set_cons_zero, List.set_cons_succ]
        refine wpAnyH_ready (rs := [6, 10]) (by kernel_rfl) (by simp) ?_
        refine (AllReadyH.cons rfl (fun K' hK => ?_) (AllReadyH.cons rfl (fun K' hK => ?_) AllReadyH.nil))
        · go_simp
          go_at_call 111
          refine (HV1.out _ (grown_drewT (grown_reflT _ _))).mono ?_
          rintro e w6 ⟨⟨a1, c1', rfl, hle1, ho1⟩, hg⟩
          have G6 : Hid (wr.grownBy w6 none) := Lib.hid ((grown_drewT (grown_reflT wr none)).trans hg)
          have O1 := Lib.hid ho1
          have L1 := Lib.hid hle1
          have r8' := G6.out.cell r8 (by simp)
          clear hg ho1 hle1
          refine hK.out _ _ trivial (fun hHeld => ?_)
          clear hK K'
          simp only [List.setIfInBounds_toArray, List.set_cons_zero, List.set_cons_succ]
          refine wpAnyH_ready (rs := [10]) (by kernel_rfl) (by simp) ?_
          refine AllReadyH.cons rfl (fun K' hK => ?_) AllReadyH.nil
          go_simp
          skip
          refine hK.out _ _ trivial (fun hHeld => ?_)
          clear hK K'
          simp only [List.setIfInBounds_toArray, List.set_cons_zero, List.set_cons_succ]
          refine wpAnyH_ready (rs := [11]) (by kernel_rfl) (by simp) ?_
          refine AllReadyH.cons rfl (fun K' hK => ?_) AllReadyH.nil
          go_simp
          go_at_call 112
          refine (HP1.out _ G6.out).mono ?_
          rintro e w7 ⟨⟨a2, c2', rfl, hle2, ho2⟩, hg⟩
          have G67 := Lib.hid hg
          have G7 : Hid (wr.grownBy w7 none) := Lib.hid (G6.out.trans hg)
          have O2 := Lib.hid ho2
          have L2 := Lib.hid hle2
          have y7 := G7.out.cell r7 (by simp)
          have y8 := G7.out.cell r8 (by simp)
          have z7 : w7.frozen? ⟨sb, so + 7, none⟩ = false := (G7.out.frozen_far ⟨sb, so + 7, none⟩ (World.block_lt_of_cell? _ _ r7) (by simp)).trans f7
          have z8 : w7.frozen? ⟨sb, so + 8, none⟩ = false := (G7.out.frozen_far ⟨sb, so + 8, none⟩ (World.block_lt_of_cell? _ _ r8) (by simp)).trans f8
          have y8' : (w7.setCell ⟨sb, so + 7, none⟩ (.slice a1 ln c1')).cell? ⟨sb, so + 8, none⟩ = some (.slice ka kn kc) := (World.cell?_setCell_other _ _ _ _ (addr_ne (by decide))).trans y8
          clear hg ho2 hle2
          refine hK.out _ _ trivial (fun hHeld => ?_)
          clear hK K'
          simp only [List.setIfInBounds_toArray, List.set_cons_zero, List.set_cons_succ]
          refine wpAnyH_take (i := 12) (v := ?v12z9) rfl (by kernel_rfl) (by kernel_rfl) (by kernel_rfl) (fun _ _ _ h => h) (Or.inl ⟨by rfl, ?y12z9⟩) (by assumption) ?r12z9
          case y12z9 => (intro w hSw; (try dsimp only at hSw); go_simp; try with_reducible rfl)
          simp only [Act.put, List.getElem_toArray, List.getElem_cons_succ, List.getElem_cons_zero, List.setIfInBounds_toArray, List.set_cons_zero, List.set_cons_succ]
          refine wpAnyH_take (i := 13) (v := ?v13z10) rfl (by kernel_rfl) (by kernel_rfl) (by kernel_rfl) (fun _ _ _ h => h) (Or.inl ⟨by rfl, ?y13z10⟩) (by assumption) ?r13z10
          case y13z10 => (intro w hSw; (try dsimp only at hSw); go_simp; try with_reducible rfl)
          simp only [Act.put, List.getElem_toArray, List.getElem_cons_succ, List.getElem_cons_zero, List.setIfInBounds_toArray, List.set_cons_zero, List.set_cons_succ]
          refine wpAnyH_ready (rs := [14]) (by kernel_rfl) (by simp) ?_
          refine AllReadyH.cons rfl (fun K' hK => ?_) AllReadyH.nil
          go_simp
          skip
          refine hK.out _ _ trivial (fun hHeld => ?_)
          clear hK K'
          simp only [List.setIfInBounds_toArray, List.set_cons_zero, List.set_cons_succ]
          refine wpAnyH_take (i := 15) (v := ?v15z11) rfl (by kernel_rfl) (by kernel_rfl) (by kernel_rfl) (fun _ _ _ h => h) (Or.inl ⟨by rfl, ?y15z11⟩) (by assumption) ?r15z11
          case y15z11 => (intro w hSw; (try dsimp only at hSw); go_simp; try with_reducible rfl)
          simp only [Act.put, List.getElem_toArray, List.getElem_cons_succ, List.getElem_cons_zero, List.setIfInBounds_toArray, List.set_cons_zero, List.set_cons_succ]
          refine wpAnyH_take (i := 16) (v := ?v16z12) rfl (by kernel_rfl) (by kernel_rfl) (by kernel_rfl) (fun _ _ _ h => h) (Or.inl ⟨by rfl, ?y16z12⟩) (by assumption) ?r16z12
          case y16z12 => (intro w hSw; (try dsimp only at hSw); go_simp; try with_reducible rfl)
          simp only [Act.put, List.getElem_toArray, List.getElem_cons_succ, List.getElem_cons_zero, List.setIfInBounds_toArray, List.set_cons_zero, List.set_cons_succ]
          refine wpAnyH_ready (rs := [17]) (by kernel_rfl) (by simp) ?_
          refine AllReadyH.cons rfl (fun K' hK => ?_) AllReadyH.nil
          go_simp
          skip
          refine hK.out _ _ trivial (fun hHeld => ?_)
          clear hK K'
          simp only [List.setIfInBounds_toArray, List.set_cons_zero, List.set_cons_succ]
          refine wpAnyH_done (by kernel_rfl) ?_ _
          obtain ⟨W5, hW5⟩ : ∃ W5, W5 = (w7.setCell ⟨sb, so + 7, none⟩ (.slice a1 ln c1')).setCell ⟨sb, so + 8, none⟩ (.slice a2 kn c2') := ⟨_, rfl⟩
          have q8 : W5.cell? ⟨sb, so + 8, none⟩ = some (.slice a2 kn c2') := by rw [hW5]; exact World.cell?_setCell_same _ _ _ y8'
          obtain ⟨kb, hkb⟩ : ∃ kb, (ks = [] ∧ kb = w7.heap.size ∨ a2 = some ⟨kb, 0, none⟩ ∧ w6.heap.size ≤ kb ∧ kb < w7.heap.size ∧ (∀ j u, (ks.flatMap Pm.c)[j]? = some u → w7.cell? ⟨kb, j, none⟩ = some u) ∧ ∀ i, w7.frozen? ⟨kb, i, none⟩ = false) := by
            rcases own_kids O2.out with e | ⟨kb, h⟩
            · exact ⟨_, .inl ⟨List.eq_nil_of_length_eq_zero (by rw [← Hkn.out]; exact e), rfl⟩⟩
            · exact ⟨kb, .inr h⟩
          have HKB : Hid (kn = 0 ∨ a2 = some ⟨kb, 0, none⟩) := Lib.hid (by
            rcases hkb with ⟨e, _⟩ | ⟨e, _⟩
            · left; rw [Hkn.out, e]; rfl
            · exact .inr e)
          have HS : Hid (CpS w X (fun b => TB b ∨ (wr.heap.size ≤ b ∧ b < W5.heap.size ∧ (bk a1 b ∨ (b = kb ∧ ks ≠ [])))) (st ++ kidN kb ks) (some ⟨ag, ao, none⟩) m' cap st W5) := Lib.hid (by
            have hC := HC.out
            obtain ⟨hT, hst, _⟩ := HQ.out
            have hsb := hC.cpy.tb sb hT
            have hs5 : W5.heap.size = w7.heap.size := by rw [hW5]; simp
            have hs6 := G6.out.size
            have hs7 := G67.out.size
            have h0 := HLast.out
            have hset : ∀ b, b ≠ sb → W5.heap[b]? = w7.heap[b]? := fun b hb => by
              rw [hW5, Below.heap_setCell _ _ _ _ (fun e => hb e), Below.heap_setCell _ _ _ _ (fun e => hb e)]
            have hcl : ∀ b i, b ≠ sb → W5.cell? ⟨b, i, none⟩ = w7.cell? ⟨b, i, none⟩ := fun b i hb => World.cell?_of_block (a := ⟨b, i, none⟩) (hset b hb)
            have hblk : ∀ b, TB b → b ≠ sb → W5.heap[b]? = wr.heap[b]? := fun b ht hb => (hset b hb).trans (G7.out.block b (hC.cpy.tb b ht).2.2 (by simp))
            have hgr : w.grownBy W5 none := by
              rw [hW5]
              exact grown_setnewX (grown_setnewX (hC.cpy.g.trans G7.out) hsb.1 _ _) hsb.1 _ _
            have hkbs : wr.heap.size ≤ kb := by
              rcases hkb with ⟨_, e⟩ | ⟨_, e, _⟩ <;> omega
            have hown1 : RwS (fun j => wr.heap.size ≤ j ∧ j ≠ kb) W5 a1 li := by
              refine RwS.ofCells HRw.out.1 HRw.out.2 ?_
              obtain ⟨a', cap', hv, hw', hb'⟩ := own_win O1.out
              cases hv
              have hlo : ∀ j, bk a1 j → wr.heap.size ≤ j ∧ j < w6.heap.size := fun j hj => ⟨by have := (World.ownsRow.lt O1.out j (hb' j hj)).1; simpa using this, (World.ownsRow.lt O1.out j (hb' j hj)).2⟩
              have h1 := (win_cells (S := fun j => wr.heap.size ≤ j ∧ j ≠ kb ∧ j ≠ sb) hw' (fun j hj => by
                have := hlo j hj
                rcases hkb with ⟨_, e⟩ | ⟨_, e, _⟩ <;> exact ⟨this.1, by omega, by omega⟩)).keep (.of G67.out)
              exact (h1.keep (w' := W5) ⟨by omega, fun b hb _ => hset b hb.2.2⟩).mono (fun b _ hb => ⟨hb.1, hb.2.1⟩)
            have hstep := hC.cpy.step (W5 := W5) (a1 := a1) (a2 := a2) (c1 := c1') (c2 := c2') (kb := kb) rfl (by omega) (by omega) (fun b ht hb => hblk b ht hb)
              (fun i h7 h8 => by
                dsimp only at h7 h8 ⊢
                rw [hW5, World.cell?_setCell_other _ _ _ _ (fun e => h8 (congrArg Addr.off e).symm), World.cell?_setCell_other _ _ _ _ (fun e => h7 (congrArg Addr.off e).symm)]
                exact World.cell?_of_block (a := ⟨sb, i, none⟩) (G7.out.block sb hsb.2.2 (by simp)))
              (by
                dsimp only
                rw [← Hln.out, hW5, World.cell?_setCell_other _ _ _ _ (addr_ne (by decide))]
                exact World.cell?_setCell_same _ _ _ y7)
              (by dsimp only; rw [← Hkn.out]; exact q8)
              (fun i => by
                dsimp only
                rw [hW5, World.frozen?_setCell, World.frozen?_setCell]
                exact (G7.out.frozen_far ⟨sb, i, none⟩ hsb.2.2 (by simp)).trans ((hC.cpy.nod _ (List.mem_append.2 (.inr (List.mem_singleton.2 rfl)))).2.2.2 i))
              hown1 (by rw [← Hln.out]; exact L1.out) (by rw [← Hkn.out]; exact L2.out)
              (by
                rcases hkb with ⟨e, _⟩ | ⟨e, h1, h2, h3, h4⟩
                · exact .inl e
                · have hne : kb ≠ sb := by omega
                  exact .inr ⟨e, by omega, by omega, fun j u hj => (hcl kb j hne).trans (h3 j u hj), fun i => (World.frozen?_of_block (a := ⟨kb, i, none⟩) (hset kb hne)).trans (h4 i)⟩) hgr
            have hag := hC.win.lt ag (by rw [bk_some])
            have hagT := hC.low ag (by rw [bk_some])
            have hasb : ag ≠ sb := fun e => hagT.2 (e ▸ hT)
            refine ⟨hst, ?_, fun j hj => ?_, hstep, ?_⟩
            · have h1 := hC.win
              rw [List.map_append] at h1
              have h2 := (h1.fewer (m := m') (by omega) (by rw [List.length_map, hst]; simp)).keepG G7.out
              exact h2.keep (M := fun j => j = sb) (w' := W5) ⟨by rw [hW5]; rfl, by rw [hW5]; rfl, by rw [hW5]; rfl, by omega, fun b _ hb => hset b hb⟩ (fun j hj e => by rw [bk_some] at hj; omega)
            · rw [bk_some] at hj
              subst hj
              refine ⟨hagT.1, fun e => ?_⟩
              rcases e with e | ⟨e, _⟩
              · exact hagT.2 e
              · omega
            · rw [hset _ (by omega)]
              exact blk_grown G7.out hC.res)
          have HKt := Lib.hid (fun i (hi : i < kn) => kidN_take (kb := kb) (ks := ks) (i := i) (by rw [← Hkn.out]; exact hi))
          have HNs : Hid (Pm.ns ((st ++ kidN kb ks).map Nd.x) + 1 ≤ gk ∧ gk ≤ 1000 ∧ ∀ t ∈ st ++ kidN kb ks, t.x.e.few) := Lib.hid (by
            obtain ⟨_, _, hns, hμ2, hfw, hfk⟩ := HQ.out
            refine ⟨?_, hμ2, fun t ht => ?_⟩
            · rw [List.map_append, Pm.ns_app, kidN_x]; omega
            · rcases List.mem_append.1 ht with ht | ht
              · exact hfw t (by simp [ht])
              · obtain ⟨j, hj, rfl⟩ := kidN_mem ht
                exact hfk _ (getD_memT ks j hj))
          have HTs : Hid (TB sb ∧ st.length = m') := Lib.hid ⟨HQ.out.1, HQ.out.2.1.symm⟩
          rw [← hW5]
          obtain ⟨TB2, hTB2⟩ : ∃ T, T = (fun b => TB b ∨ (wr.heap.size ≤ b ∧ b < W5.heap.size ∧ (bk a1 b ∨ (b = kb ∧ ks ≠ [])))) := ⟨_, rfl⟩
          have HTb : Hid (TB2 sb) := Lib.hid (by rw [hTB2]; exact .inl HTs.out.1)
          rw [← hTB2] at HS
          have HQ8 := Lib.hid q8
          clear hW5 hkb y7 y8 y8' z7 z8 r7 r8 r8' f7 f8 hTB2 HC HQ HV1 HP1 cT
          go_wp2_with fail
          generalize wr = wq at *
          clear q8
          go_loopw [3, 42] (fun s3 s42 wr2 => ∃ (a : Ptr) (n cp i : Nat), s3 = .slice a n cp ∧ s42 = .int .i64 i ∧ i ≤ kn ∧ n ≤ m' + i ∧ Hid (CpS w X TB2 (st ++ kidN kb ks) a n cp (st ++ (kidN kb ks).take i) wr2 ∧ wr2.cell? ⟨sb, so + 8, none⟩ = some (.slice a2 kn c2'))) (fun _ s42 _ => kn - (intOf s42).toNat)
          case atStart => exact ⟨_, m', cap, 0, rfl, rfl, by omega, by omega, Lib.hid ⟨by simpa using HS.out, HQ8.out⟩⟩
          case round =>
            obtain ⟨a, n, cp, i, rfl, rfl, hi, hni, Q⟩ := hrel
            by_cases hlt : i < kn
            · obtain rfl := HKB.out.resolve_left (by omega)
              have q8 := Q.out.2
              have W3 := Lib.hid (Q.out.1.win.keepG (World.grownBy_alloc wr (.cells #[.pointer (some ⟨kb, i * 10, none⟩)] 196) none))
              go_wp2_with (refine wpList_append_win (by rfl) (.tmp 45) (.tmp 52) ptr_el (by rfl) W3.out (by omega) (by rfl) ⟨wr.heap.size, 0, none⟩ 1 (by rfl) [.pointer (some ⟨kb, i * 10, none⟩)] rfl (World.news_of_block (heap_alloc_new wr _)) (by intro u hu; rw [List.mem_singleton] at hu; subst hu; rfl) ?_)
              intro a4 cp4 w4 hw4 ho4 hb4
              have E4 := Lib.hid (And.intro hw4 (And.intro ho4 hb4))
              clear hw4 ho4 hb4 q8
              go_wp2_with fail
              go_roundw
              case rel => exact ⟨a4, n + 1, cp4, i + 1, rfl, by go_num, by omega, by omega, Lib.hid (by
                obtain ⟨h1, h2, h3⟩ := E4.out
                have hpush := Q.out.1.push (s := ⟨kb, i * 10, ks.getD i default⟩) (by rw [List.map_append, List.map_take, List.append_assoc]; exact h1) h2 (by simpa using h3)
                refine ⟨by rw [HKt.out i hlt, ← List.append_assoc]; exact hpush, ?_⟩
                have hb := Q.out.1.cpy.tb sb HTb.out
                rw [World.cell?_of_block (a := ⟨sb, so + 8, none⟩) (h2.block sb (by have := (World.grownBy_alloc wr (.cells #[.pointer (some ⟨kb, i * 10, none⟩)] 196) none).size; omega) (fun e => (Q.out.1.low sb e).2 HTb.out))]
                exact (World.grownBy_alloc wr _ none).cell Q.out.2 (by simp))⟩
              case measure => simp [intOf]; omega
            · obtain rfl : i = kn := by omega
              go_wp2_with fail
              have hlen : (kidN kb ks).length = i := by rw [kidN_len, Hkn.out]
              have hC := Q.out.1
              rw [List.take_of_length_le (Nat.le_of_eq hlen)] at hC
              have hl := hC.len
              have hN := HNs.out
              have hL := Pm.len_ns ((st ++ kidN kb ks).map Nd.x)
              rw [List.length_map] at hL
              have hle := hC.win.le
              go_roundg (Pm.ns ((st ++ kidN kb ks).map Nd.x))
              case measure => omega
              case rel => exact ⟨a, n, cp, rfl, hle, by omega, Lib.hid ⟨_, _, hC, Nat.le_refl _, by omega, hN.2.2⟩⟩
        · go_simp
          skip
          refine hK.out _ _ trivial (fun hHeld => ?_)
          clear hK K'
          simp only [List.setIfInBounds_toArray, List.set_cons_zero, List.set_cons_succ]
          refine wpAnyH_ready (rs := [6]) (by kernel_rfl) (by simp) ?_
          refine AllReadyH.cons rfl (fun K' hK => ?_) AllReadyH.nil
          go_simp
          go_at_call 111
          refine (HV1.out _ (grown_drewT (grown_reflT _ _))).mono ?_
          rintro e w6 ⟨⟨a1, c1', rfl, hle1, ho1⟩, hg⟩
          have G6 : Hid (wr.grownBy w6 none) := Lib.hid ((grown_drewT (grown_reflT wr none)).trans hg)
          have O1 := Lib.hid ho1
          have L1 := Lib.hid hle1
          have r8' := G6.out.cell r8 (by simp)
          clear hg ho1 hle1
          refine hK.out _ _ trivial (fun hHeld => ?_)
          clear hK K'
          simp only [List.setIfInBounds_toArray, List.set_cons_zero, List.set_cons_succ]
          refine wpAnyH_ready (rs := [11]) (by kernel_rfl) (by simp) ?_
          refine AllReadyH.cons rfl (fun K' hK => ?_) AllReadyH.nil
          go_simp
          go_at_call 112
          refine (HP1.out _ G6.out).mono ?_
          rintro e w7 ⟨⟨a2, c2', rfl, hle2, ho2⟩, hg⟩
          have G67 := Lib.hid hg
          have G7 : Hid (wr.grownBy w7 none) := Lib.hid (G6.out.trans hg)
          have O2 := Lib.hid ho2
          have L2 := Lib.hid hle2
          have y7 := G7.out.cell r7 (by simp)
          have y8 := G7.out.cell r8 (by simp)
          have z7 : w7.frozen? ⟨sb, so + 7, none⟩ = false := (G7.out.frozen_far ⟨sb, so + 7, none⟩ (World.block_lt_of_cell? _ _ r7) (by simp)).trans f7
          have z8 : w7.frozen? ⟨sb, so + 8, none⟩ = false := (G7.out.frozen_far ⟨sb, so + 8, none⟩ (World.block_lt_of_cell? _ _ r8) (by simp)).trans f8
          have y8' : (w7.setCell ⟨sb, so + 7, none⟩ (.slice a1 ln c1')).cell? ⟨sb, so + 8, none⟩ = some (.slice ka kn kc) := (World.cell?_setCell_other _ _ _ _ (addr_ne (by decide))).trans y8
          clear hg ho2 hle2
          refine hK.out _ _ trivial (fun hHeld => ?_)
          clear hK K'
          simp only [List.setIfInBounds_toArray, List.set_cons_zero, List.set_cons_succ]
          refine wpAnyH_take (i := 12) (v := ?v12z13) rfl (by kernel_rfl) (by kernel_rfl) (by kernel_rfl) (fun _ _ _ h => h) (Or.inl ⟨by rfl, ?y12z13⟩) (by assumption) ?r12z13
          case y12z13 => (intro w hSw; (try dsimp only at hSw); go_simp; try with_reducible rfl)
          simp only [Act.put, List.getElem_toArray, List.getElem_cons_succ, List.getElem_cons_zero, List.setIfInBounds_toArray, List.set_cons_zero, List.set_cons_succ]
          refine wpAnyH_take (i := 13) (v := ?v13z14) rfl (by kernel_rfl) (by kernel_rfl) (by kernel_rfl) (fun _ _ _ h => h) (Or.inl ⟨by rfl, ?y13z14⟩) (by assumption) ?r13z14
          case y13z14 => (intro w hSw; (try dsimp only at hSw); go_simp; try with_reducible rfl)
          simp only [Act.put, List.getElem_toArray, List.getElem_cons_succ, List.getElem_cons_zero, List.setIfInBounds_toArray, List.set_cons_zero, List.set_cons_succ]
          refine wpAnyH_ready (rs := [14]) (by kernel_rfl) (by simp) ?_
          refine AllReadyH.cons rfl (fun K' hK => ?_) AllReadyH.nil
          go_simp
          skip
          refine hK.out _ _ trivial (fun hHeld => ?_)
          clear hK K'
          simp only [List.setIfInBounds_toArray, List.set_cons_zero, List.set_cons_succ]
          refine wpAnyH_take (i := 15) (v := ?v15z15) rfl (by kernel_rfl) (by kernel_rfl) (by kernel_rfl) (fun _ _ _ h => h) (Or.inl ⟨by rfl, ?y15z15⟩) (by assumption) ?r15z15
          case y15z15 => (intro w hSw; (try dsimp only at hSw); go_simp; try with_reducible rfl)
          simp only [Act.put, List.getElem_toArray, List.getElem_cons_succ, List.getElem_cons_zero, List.setIfInBounds_toArray, List.set_cons_zero, List.set_cons_succ]
          refine wpAnyH_take (i := 16) (v := ?v16z16) rfl (by kernel_rfl) (by kernel_rfl) (by kernel_rfl) (fun _ _ _ h => h) (Or.inl ⟨by rfl, ?y16z16⟩) (by assumption) ?r16z16
          case y16z16 => (intro w hSw; (try dsimp only at hSw); go_simp; try with_reducible rfl)
          simp only [Act.put, List.getElem_toArray, List.getElem_cons_succ, List.getElem_cons_zero, List.setIfInBounds_toArray, List.set_cons_zero, List.set_cons_succ]
          refine wpAnyH_ready (rs := [17]) (by kernel_rfl) (by simp) ?_
          refine AllReadyH.cons rfl (fun K' hK => ?_) AllReadyH.nil
          go_simp
          skip
          refine hK.out _ _ trivial (fun hHeld => ?_)
          clear hK K'
          simp only [List.setIfInBounds_toArray, List.set_cons_zero, List.set_cons_succ]
          refine wpAnyH_done (by kernel_rfl) ?_ _
          obtain ⟨W5, hW5⟩ : ∃ W5, W5 = (w7.setCell ⟨sb, so + 7, none⟩ (.slice a1 ln c1')).setCell ⟨sb, so + 8, none⟩ (.slice a2 kn c2') := ⟨_, rfl⟩
          have q8 : W5.cell? ⟨sb, so + 8, none⟩ = some (.slice a2 kn c2') := by rw [hW5]; exact World.cell?_setCell_same _ _ _ y8'
          obtain ⟨kb, hkb⟩ : ∃ kb, (ks = [] ∧ kb = w7.heap.size ∨ a2 = some ⟨kb, 0, none⟩ ∧ w6.heap.size ≤ kb ∧ kb < w7.heap.size ∧ (∀ j u, (ks.flatMap Pm.c)[j]? = some u → w7.cell? ⟨kb, j, none⟩ = some u) ∧ ∀ i, w7.frozen? ⟨kb, i, none⟩ = false) := by
            rcases own_kids O2.out with e | ⟨kb, h⟩
            · exact ⟨_, .inl ⟨List.eq_nil_of_length_eq_zero (by rw [← Hkn.out]; exact e), rfl⟩⟩
            · exact ⟨kb, .inr h⟩
          have HKB : Hid (kn = 0 ∨ a2 = some ⟨kb, 0, none⟩) := Lib.hid (by
            rcases hkb with ⟨e, _⟩ | ⟨e, _⟩
            · left; rw [Hkn.out, e]; rfl
            · exact .inr e)
          have HS : Hid (CpS w X (fun b => TB b ∨ (wr.heap.size ≤ b ∧ b < W5.heap.size ∧ (bk a1 b ∨ (b = kb ∧ ks ≠ [])))) (st ++ kidN kb ks) (some ⟨ag, ao, none⟩) m' cap st W5) := Lib.hid (by
            have hC := HC.out
            obtain ⟨hT, hst, _⟩ := HQ.out
            have hsb := hC.cpy.tb sb hT
            have hs5 : W5.heap.size = w7.heap.size := by rw [hW5]; simp
            have hs6 := G6.out.size
            have hs7 := G67.out.size
            have h0 := HLast.out
            have hset : ∀ b, b ≠ sb → W5.heap[b]? = w7.heap[b]? := fun b hb => by
              rw [hW5, Below.heap_setCell _ _ _ _ (fun e => hb e), Below.heap_setCell _ _ _ _ (fun e => hb e)]
            have hcl : ∀ b i, b ≠ sb → W5.cell? ⟨b, i, none⟩ = w7.cell? ⟨b, i, none⟩ := fun b i hb => World.cell?_of_block (a := ⟨b, i, none⟩) (hset b hb)
            have hblk : ∀ b, TB b → b ≠ sb → W5.heap[b]? = wr.heap[b]? := fun b ht hb => (hset b hb).trans (G7.out.block b (hC.cpy.tb b ht).2.2 (by simp))
            have hgr : w.grownBy W5 none := by
              rw [hW5]
              exact grown_setnewX (grown_setnewX (hC.cpy.g.trans G7.out) hsb.1 _ _) hsb.1 _ _
            have hkbs : wr.heap.size ≤ kb := by
              rcases hkb with ⟨_, e⟩ | ⟨_, e, _⟩ <;> omega
            have hown1 : RwS (fun j => wr.heap.size ≤ j ∧ j ≠ kb) W5 a1 li := by
              refine RwS.ofCells HRw.out.1 HRw.out.2 ?_
              obtain ⟨a', cap', hv, hw', hb'⟩ := own_win O1.out
              cases hv
              have hlo : ∀ j, bk a1 j → wr.heap.size ≤ j ∧ j < w6.heap.size := fun j hj => ⟨by have := (World.ownsRow.lt O1.out j (hb' j hj)).1; simpa using this, (World.ownsRow.lt O1.out j (hb' j hj)).2⟩
              have h1 := (win_cells (S := fun j => wr.heap.size ≤ j ∧ j ≠ kb ∧ j ≠ sb) hw' (fun j hj => by
                have := hlo j hj
                rcases hkb with ⟨_, e⟩ | ⟨_, e, _⟩ <;> exact ⟨this.1, by omega, by omega⟩)).keep (.of G67.out)
              exact (h1.keep (w' := W5) ⟨by omega, fun b hb _ => hset b hb.2.2⟩).mono (fun b _ hb => ⟨hb.1, hb.2.1⟩)
            have hstep := hC.cpy.step (W5 := W5) (a1 := a1) (a2 := a2) (c1 := c1') (c2 := c2') (kb := kb) rfl (by omega) (by omega) (fun b ht hb => hblk b ht hb)
              (fun i h7 h8 => by
                dsimp only at h7 h8 ⊢
                rw [hW5, World.cell?_setCell_other _ _ _ _ (fun e => h8 (congrArg Addr.off e).symm), World.cell?_setCell_other _ _ _ _ (fun e => h7 (congrArg Addr.off e).symm)]
                exact World.cell?_of_block (a := ⟨sb, i, none⟩) (G7.out.block sb hsb.2.2 (by simp)))
              (by
                dsimp only
                rw [← Hln.out, hW5, World.cell?_setCell_other _ _ _ _ (addr_ne (by decide))]
                exact World.cell?_setCell_same _ _ _ y7)
              (by dsimp only; rw [← Hkn.out]; exact q8)
              (fun i => by
                dsimp only
                rw [hW5, World.frozen?_setCell, World.frozen?_setCell]
                exact (G7.out.frozen_far ⟨sb, i, none⟩ hsb.2.2 (by simp)).trans ((hC.cpy.nod _ (List.mem_append.2 (.inr (List.mem_singleton.2 rfl)))).2.2.2 i))
              hown1 (by rw [← Hln.out]; exact L1.out) (by rw [← Hkn.out]; exact L2.out)
              (by
                rcases hkb with ⟨e, _⟩ | ⟨e, h1, h2, h3, h4⟩
                · exact .inl e
                · have hne : kb ≠ sb := by omega
                  exact .inr ⟨e, by omega, by omega, fun j u hj => (hcl kb j hne).trans (h3 j u hj), fun i => (World.frozen?_of_block (a := ⟨kb, i, none⟩) (hset kb hne)).trans (h4 i)⟩) hgr
            have hag := hC.win.lt ag (by rw [bk_some])
            have hagT := hC.low ag (by rw [bk_some])
            have hasb : ag ≠ sb := fun e => hagT.2 (e ▸ hT)
            refine ⟨hst, ?_, fun j hj => ?_, hstep, ?_⟩
            · have h1 := hC.win
              rw [List.map_append] at h1
              have h2 := (h1.fewer (m := m') (by omega) (by rw [List.length_map, hst]; simp)).keepG G7.out
              exact h2.keep (M := fun j => j = sb) (w' := W5) ⟨by rw [hW5]; rfl, by rw [hW5]; rfl, by rw [hW5]; rfl, by omega, fun b _ hb => hset b hb⟩ (fun j hj e => by rw [bk_some] at hj; omega)
            · rw [bk_some] at hj
              subst hj
              refine ⟨hagT.1, fun e => ?_⟩
              rcases e with e | ⟨e, _⟩
              · exact hagT.2 e
              · omega
            · rw [hset _ (by omega)]
              exact blk_grown G7.out hC.res)
          have HKt := Lib.hid (fun i (hi : i < kn) => kidN_take (kb := kb) (ks := ks) (i := i) (by rw [← Hkn.out]; exact hi))
          have HNs : Hid (Pm.ns ((st ++ kidN kb ks).map Nd.x) + 1 ≤ gk ∧ gk ≤ 1000 ∧ ∀ t ∈ st ++ kidN kb ks, t.x.e.few) := Lib.hid (by
            obtain ⟨_, _, hns, hμ2, hfw, hfk⟩ := HQ.out
            refine ⟨?_, hμ2, fun t ht => ?_⟩
            · rw [List.map_append, Pm.ns_app, kidN_x]; omega
            · rcases List.mem_append.1 ht with ht | ht
              · exact hfw t (by simp [ht])
              · obtain ⟨j, hj, rfl⟩ := kidN_mem ht
                exact hfk _ (getD_memT ks j hj))
          have HTs : Hid (TB sb ∧ st.length = m') := Lib.hid ⟨HQ.out.1, HQ.out.2.1.symm⟩
          rw [← hW5]
          obtain ⟨TB2, hTB2⟩ : ∃ T, T = (fun b => TB b ∨ (wr.heap.size ≤ b ∧ b < W5.heap.size ∧ (bk a1 b ∨ (b = kb ∧ ks ≠ [])))) := ⟨_, rfl⟩
          have HTb : Hid (TB2 sb) := Lib.hid (by rw [hTB2]; exact .inl HTs.out.1)
          rw [← hTB2] at HS
          have HQ8 := Lib.hid q8
          clear hW5 hkb y7 y8 y8' z7 z8 r7 r8 r8' f7 f8 hTB2 HC HQ HV1 HP1 cT
          go_wp2_with fail
          generalize wr = wq at *
          clear q8
          go_loopw [3, 42] (fun s3 s42 wr2 => ∃ (a : Ptr) (n cp i : Nat), s3 = .slice a n cp ∧ s42 = .int .i64 i ∧ i ≤ kn ∧ n ≤ m' + i ∧ Hid (CpS w X TB2 (st ++ kidN kb ks) a n cp (st ++ (kidN kb ks).take i) wr2 ∧ wr2.cell? ⟨sb, so + 8, none⟩ = some (.slice a2 kn c2'))) (fun _ s42 _ => kn - (intOf s42).toNat)
          case atStart => exact ⟨_, m', cap, 0, rfl, rfl, by omega, by omega, Lib.hid ⟨by simpa using HS.out, HQ8.out⟩⟩
          case round =>
            obtain ⟨a, n, cp, i, rfl, rfl, hi, hni, Q⟩ := hrel
            by_cases hlt : i < kn
            · obtain rfl := HKB.out.resolve_left (by omega)
              have q8 := Q.out.2
              have W3 := Lib.hid (Q.out.1.win.keepG (World.grownBy_alloc wr (.cells #[.pointer (some ⟨kb, i * 10, none⟩)] 196) none))
              go_wp2_with (refine wpList_append_win (by rfl) (.tmp 45) (.tmp 52) ptr_el (by rfl) W3.out (by omega) (by rfl) ⟨wr.heap.size, 0, none⟩ 1 (by rfl) [.pointer (some ⟨kb, i * 10, none⟩)] rfl (World.news_of_block (heap_alloc_new wr _)) (by intro u hu; rw [List.mem_singleton] at hu; subst hu; rfl) ?_)
              intro a4 cp4 w4 hw4 ho4 hb4
              have E4 := Lib.hid (And.intro hw4 (And.intro ho4 hb4))
              clear hw4 ho4 hb4 q8
              go_wp2_with fail
              go_roundw
              case rel => exact ⟨a4, n + 1, cp4, i + 1, rfl, by go_num, by omega, by omega, Lib.hid (by
                obtain ⟨h1, h2, h3⟩ := E4.out
                have hpush := Q.out.1.push (s := ⟨kb, i * 10, ks.getD i default⟩) (by rw [List.map_append, List.map_take, List.append_assoc]; exact h1) h2 (by simpa using h3)
                refine ⟨by rw [HKt.out i hlt, ← List.append_assoc]; exact hpush, ?_⟩
                have hb := Q.out.1.cpy.tb sb HTb.out
                rw [World.cell?_of_block (a := ⟨sb, so + 8, none⟩) (h2.block sb (by have := (World.grownBy_alloc wr (.cells #[.pointer (some ⟨kb, i * 10, none⟩)] 196) none).size; omega) (fun e => (Q.out.1.low sb e).2 HTb.out))]
                exact (World.grownBy_alloc wr _ none).cell Q.out.2 (by simp))⟩
              case measure => simp [intOf]; omega
            · obtain rfl : i = kn := by omega
              go_wp2_with fail
              have hlen : (kidN kb ks).length = i := by rw [kidN_len, Hkn.out]
              have hC := Q.out.1
              rw [List.take_of_length_le (Nat.le_of_eq hlen)] at hC
              have hl := hC.len
              have hN := HNs.out
              have hL := Pm.len_ns ((st ++ kidN kb ks).map Nd.x)
              rw [List.length_map] at hL
              have hle := hC.win.le
              go_roundg (Pm.ns ((st ++ kidN kb ks).map Nd.x))
              case measure => omega
              case rel => exact ⟨a, n, cp, rfl, hle, by omega, Lib.hid ⟨_, _, hC, Nat.le_refl _, by omega, hN.2.2⟩⟩
      · go_simp
        skip
        refine hK.out _ _ trivial (fun hHeld => ?_)
        clear hK K'
        simp only [List.setIfInBounds_toArray, List.set_cons_zero, List.set_cons_succ]
        refine wpAnyH_ready (rs := [5]) (by kernel_rfl) (by simp) ?_
        refine AllReadyH.cons rfl (fun K' hK => ?_) AllReadyH.nil
        go_simp
        skip
        refine hK.out _ _ trivial (fun hHeld => ?_)
        clear hK K'
        simp only [List.setIfInBounds_toArray, List.set_cons_zero, List.set_cons_succ]
        refine wpAnyH_ready (rs := [6]) (by kernel_rfl) (by simp) ?_
        refine AllReadyH.cons rfl (fun K' hK => ?_) AllReadyH.nil
        go_simp
        go_at_call 111
        refine (HV1.out _ (grown_drewT (grown_reflT _ _))).mono ?_
        rintro e w6 ⟨⟨a1, c1', rfl, hle1, ho1⟩, hg⟩
        have G6 : Hid (wr.grownBy w6 none) := Lib.hid ((grown_drewT (grown_reflT wr none)).trans hg)
        have O1 := Lib.hid ho1
        have L1 := Lib.hid hle1
        have r8' := G6.out.cell r8 (by simp)
        clear hg ho1 hle1
        refine hK.out _ _ trivial (fun hHeld => ?_)
        clear hK K'
        simp only [List.setIfInBounds_toArray, List.set_cons_zero, List.set_cons_succ]
        refine wpAnyH_ready (rs := [11]) (by kernel_rfl) (by simp) ?_
        refine AllReadyH.cons rfl (fun K' hK => ?_) AllReadyH.nil
        go_simp
        go_at_call 112
        refine (HP1.out _ G6.out).mono ?_
        rintro e w7 ⟨⟨a2, c2', rfl, hle2, ho2⟩, hg⟩
        have G67 := Lib.hid hg
        have G7 : Hid (wr.grownBy w7 none) := Lib.hid (G6.out.trans hg)
        have O2 := Lib.hid ho2
        have L2 := Lib.hid hle2
        have y7 := G7.out.cell r7 (by simp)
        have y8 := G7.out.cell r8 (by simp)
        have z7 : w7.frozen? ⟨sb, so + 7, none⟩ = false := (G7.out.frozen_far ⟨sb, so + 7, none⟩ (World.block_lt_of_cell? _ _ r7) (by simp)).trans f7
        have z8 : w7.frozen? ⟨sb, so + 8, none⟩ = false := (G7.out.frozen_far ⟨sb, so + 8, none⟩ (World.block_lt_of_cell? _ _ r8) (by simp)).trans f8
        have y8' : (w7.setCell ⟨sb, so + 7, none⟩ (.slice a1 ln c1')).cell? ⟨sb, so + 8, none⟩ = some (.slice ka kn kc) := (World.cell?_setCell_other _ _ _ _ (addr_ne (by decide))).trans y8
        clear hg ho2 hle2
        refine hK.out _ _ trivial (fun hHeld => ?_)
        clear hK K'
        simp only [List.setIfInBounds_toArray, List.set_cons_zero, List.set_cons_succ]
        refine wpAnyH_take (i := 12) (v := ?v12z17) rfl (by kernel_rfl) (by kernel_rfl) (by kernel_rfl) (fun _ _ _ h => h) (Or.inl ⟨by rfl, ?y12z17⟩) (by assumption) ?r12z17
        case y12z17 => (intro w hSw; (try dsimp only at hSw); go_simp; try with_reducible rfl)
        simp only [Act.put, List.getElem_toArray, List.getElem_cons_succ, List.getElem_cons_zero, List.setIfInBounds_toArray, List.set_cons_zero, List.set_cons_succ]
        refine wpAnyH_take (i := 13) (v := ?v13z18) rfl (by kernel_rfl) (by kernel_rfl) (by kernel_rfl) (fun _ _ _ h => h) (Or.inl ⟨by rfl, ?y13z18⟩) (by assumption) ?r13z18
        case y13z18 => (intro w hSw; (try dsimp only at hSw); go_simp; try with_reducible rfl)
        simp only [Act.put, List.getElem_toArray, List.getElem_cons_succ, List.getElem_cons_zero, List.setIfInBounds_toArray, List.set_cons_zero, List.set_cons_succ]
        refine wpAnyH_ready (rs := [14]) (by kernel_rfl) (by simp) ?_
        refine AllReadyH.cons rfl (fun K' hK => ?_) AllReadyH.nil
        go_simp
        skip
        refine hK.out _ _ trivial (fun hHeld => ?_)
        clear hK K'
        simp only [List.setIfInBounds_toArray, List.set_cons_zero, List.set_cons_succ]
        refine wpAnyH_take (i := 15) (v := ?v15z19) rfl (by kernel_rfl) (by kernel_rfl) (by kernel_rfl) (fun _ _ _ h => h) (Or.inl ⟨by rfl, ?y15z19⟩) (by assumption) ?r15z19
        case y15z19 => (intro w hSw; (try dsimp only at hSw); go_simp; try with_reducible rfl)
        simp only [Act.put, List.getElem_toArray, List.getElem_cons_succ, List.getElem_cons_zero, List.setIfInBounds_toArray, List.set_cons_zero, List.set_cons_succ]
        refine wpAnyH_take (i := 16) (v := ?v16z20) rfl (by kernel_rfl) (by kernel_rfl) (by kernel_rfl) (fun _ _ _ h => h) (Or.inl ⟨by rfl, ?y16z20⟩) (by assumption) ?r16z20
        case y16z20 => (intro w hSw; (try dsimp only at hSw); go_simp; try with_reducible rfl)
        simp only [Act.put, List.getElem_toArray, List.getElem_cons_succ, List.getElem_cons_zero, List.setIfInBounds_toArray, List.set_cons_zero, List.set_cons_succ]
        refine wpAnyH_ready (rs := [17]) (by kernel_rfl) (by simp) ?_
        refine AllReadyH.cons rfl (fun K' hK => ?_) AllReadyH.nil
        go_simp
        skip
        refine hK.out _ _ trivial (fun hHeld => ?_)
        clear hK K'
        simp only [List.setIfInBounds_toArray, List.set_cons_zero, List.set_cons_succ]
        refine wpAnyH_done (by kernel_rfl) ?_ _
        obtain ⟨W5, hW5⟩ : ∃ W5, W5 = (w7.setCell ⟨sb, so + 7, none⟩ (.slice a1 ln c1')).setCell ⟨sb, so + 8, none⟩ (.slice a2 kn c2') := ⟨_, rfl⟩
        have q8 : W5.cell? ⟨sb, so + 8, none⟩ = some (.slice a2 kn c2') := by rw [hW5]; exact World.cell?_setCell_same _ _ _ y8'
        obtain ⟨kb, hkb⟩ : ∃ kb, (ks = [] ∧ kb = w7.heap.size ∨ a2 = some ⟨kb, 0, none⟩ ∧ w6.heap.size ≤ kb ∧ kb < w7.heap.size ∧ (∀ j u, (ks.flatMap Pm.c)[j]? = some u → w7.cell? ⟨kb, j, none⟩ = some u) ∧ ∀ i, w7.frozen? ⟨kb, i, none⟩ = false) := by
          rcases own_kids O2.out with e | ⟨kb, h⟩
          · exact ⟨_, .inl ⟨List.eq_nil_of_length_eq_zero (by rw [← Hkn.out]; exact e), rfl⟩⟩
          · exact ⟨kb, .inr h⟩
        have HKB : Hid (kn = 0 ∨ a2 = some ⟨kb, 0, none⟩) := Lib.hid (by
          rcases hkb with ⟨e, _⟩ | ⟨e, _⟩
          · left; rw [Hkn.out, e]; rfl
          · exact .inr e)
        have HS : Hid (CpS w X (fun b => TB b ∨ (wr.heap.size ≤ b ∧ b < W5.heap.size ∧ (bk a1 b ∨ (b = kb ∧ ks ≠ [])))) (st ++ kidN kb ks) (some ⟨ag, ao, none⟩) m' cap st W5) := Lib.hid (by
          have hC := HC.out
          obtain ⟨hT, hst, _⟩ := HQ.out
          have hsb := hC.cpy.tb sb hT
          have hs5 : W5.heap.size = w7.heap.size := by rw [hW5]; simp
          have hs6 := G6.out.size
          have hs7 := G67.out.size
          have h0 := HLast.out
          have hset : ∀ b, b ≠ sb → W5.heap[b]? = w7.heap[b]? := fun b hb => by
            rw [hW5, Below.heap_setCell _ _ _ _ (fun e => hb e), Below.heap_setCell _ _ _ _ (fun e => hb e)]
          have hcl : ∀ b i, b ≠ sb → W5.cell? ⟨b, i, none⟩ = w7.cell? ⟨b, i, none⟩ := fun b i hb => World.cell?_of_block (a := ⟨b, i, none⟩) (hset b hb)
          have hblk : ∀ b, TB b → b ≠ sb → W5.heap[b]? = wr.heap[b]? := fun b ht hb => (hset b hb).trans (G7.out.block b (hC.cpy.tb b ht).2.2 (by simp))
          have hgr : w.grownBy W5 none := by
            rw [hW5]
            exact grown_setnewX (grown_setnewX (hC.cpy.g.trans G7.out) hsb.1 _ _) hsb.1 _ _
          have hkbs : wr.heap.size ≤ kb := by
            rcases hkb with ⟨_, e⟩ | ⟨_, e, _⟩ <;> omega
          have hown1 : RwS (fun j => wr.heap.size ≤ j ∧ j ≠ kb) W5 a1 li := by
            refine RwS.ofCells HRw.out.1 HRw.out.2 ?_
            obtain ⟨a', cap', hv, hw', hb'⟩ := own_win O1.out
            cases hv
            have hlo : ∀ j, bk a1 j → wr.heap.size ≤ j ∧ j < w6.heap.size := fun j hj => ⟨by have := (World.ownsRow.lt O1.out j (hb' j hj)).1; simpa using this, (World.ownsRow.lt O1.out j (hb' j hj)).2⟩
            have h1 := (win_cells (S := fun j => wr.heap.size ≤ j ∧ j ≠ kb ∧ j ≠ sb) hw' (fun j hj => by
              have := hlo j hj
              rcases hkb with ⟨_, e⟩ | ⟨_, e, _⟩ <;> exact ⟨this.1, by omega, by omega⟩)).keep (.of G67.out)
            exact (h1.keep (w' := W5) ⟨by omega, fun b hb _ => hset b hb.2.2⟩).mono (fun b _ hb => ⟨hb.1, hb.2.1⟩)
          have hstep := hC.cpy.step (W5 := W5) (a1 := a1) (a2 := a2) (c1 := c1') (c2 := c2') (kb := kb) rfl (by omega) (by omega) (fun b ht hb => hblk b ht hb)
            (fun i h7 h8 => by
              dsimp only at h7 h8 ⊢
              rw [hW5, World.cell?_setCell_other _ _ _ _ (fun e => h8 (congrArg Addr.off e).symm), World.cell?_setCell_other _ _ _ _ (fun e => h7 (congrArg Addr.off e).symm)]
              exact World.cell?_of_block (a := ⟨sb, i, none⟩) (G7.out.block sb hsb.2.2 (by simp)))
            (by
              dsimp only
              rw [← Hln.out, hW5, World.cell?_setCell_other _ _ _ _ (addr_ne (by decide))]
              exact World.cell?_setCell_same _ _ _ y7)
            (by dsimp only; rw [← Hkn.out]; exact q8)
            (fun i => by
              dsimp only
              rw [hW5, World.frozen?_setCell, World.frozen?_setCell]
              exact (G7.out.frozen_far ⟨sb, i, none⟩ hsb.2.2 (by simp)).trans ((hC.cpy.nod _ (List.mem_append.2 (.inr (List.mem_singleton.2 rfl)))).2.2.2 i))
            hown1 (by rw [← Hln.out]; exact L1.out) (by rw [← Hkn.out]; exact L2.out)
            (by
              rcases hkb with ⟨e, _⟩ | ⟨e, h1, h2, h3, h4⟩
              · exact .inl e
              · have hne : kb ≠ sb := by omega
                exact .inr ⟨e, by omega, by omega, fun j u hj => (hcl kb j hne).trans (h3 j u hj), fun i => (World.frozen?_of_block (a := ⟨kb, i, none⟩) (hset kb hne)).trans (h4 i)⟩) hgr
          have hag := hC.win.lt ag (by rw [bk_some])
          have hagT := hC.low ag (by rw [bk_some])
          have hasb : ag ≠ sb := fun e => hagT.2 (e ▸ hT)
          refine ⟨hst, ?_, fun j hj => ?_, hstep, ?_⟩
          · have h1 := hC.win
            rw [List.map_append] at h1
            have h2 := (h1.fewer (m := m') (by omega) (by rw [List.length_map, hst]; simp)).keepG G7.out
            exact h2.keep (M := fun j => j = sb) (w' := W5) ⟨by rw [hW5]; rfl, by rw [hW5]; rfl, by rw [hW5]; rfl, by omega, fun b _ hb => hset b hb⟩ (fun j hj e => by rw [bk_some] at hj; omega)
          · rw [bk_some] at hj
            subst hj
            refine ⟨hagT.1, fun e => ?_⟩
            rcases e with e | ⟨e, _⟩
            · exact hagT.2 e
            · omega
          · rw [hset _ (by omega)]
            exact blk_grown G7.out hC.res)
        have HKt := Lib.hid (fun i (hi : i < kn) => kidN_take (kb := kb) (ks := ks) (i := i) (by rw [← Hkn.out]; exact hi))
        have HNs : Hid (Pm.ns ((st ++ kidN kb ks).map Nd.x) + 1 ≤ gk ∧ gk ≤ 1000 ∧ ∀ t ∈ st ++ kidN kb ks, t.x.e.few) := Lib.hid (by
          obtain ⟨_, _, hns, hμ2, hfw, hfk⟩ := HQ.out
          refine ⟨?_, hμ2, fun t ht => ?_⟩
          · rw [List.map_append, Pm.ns_app, kidN_x]; omega
          · rcases List.mem_append.1 ht with ht | ht
            · exact hfw t (by simp [ht])
            · obtain ⟨j, hj, rfl⟩ := kidN_mem ht
              exact hfk _ (getD_memT ks j hj))
        have HTs : Hid (TB sb ∧ st.length = m') := Lib.hid ⟨HQ.out.1, HQ.out.2.1.symm⟩
        rw [← hW5]
        obtain ⟨TB2, hTB2⟩ : ∃ T, T = (fun b => TB b ∨ (wr.heap.size ≤ b ∧ b < W5.heap.size ∧ (bk a1 b ∨ (b = kb ∧ ks ≠ [])))) := ⟨_, rfl⟩
        have HTb : Hid (TB2 sb) := Lib.hid (by rw [hTB2]; exact .inl HTs.out.1)
        rw [← hTB2] at HS
        have HQ8 := Lib.hid q8
        clear hW5 hkb y7 y8 y8' z7 z8 r7 r8 r8' f7 f8 hTB2 HC HQ HV1 HP1 cT
        go_wp2_with fail
        generalize wr = wq at *
        clear q8
        go_loopw [3, 42] (fun s3 s42 wr2 => ∃ (a : Ptr) (n cp i : Nat), s3 = .slice a n cp ∧ s42 = .int .i64 i ∧ i ≤ kn ∧ n ≤ m' + i ∧ Hid (CpS w X TB2 (st ++ kidN kb ks) a n cp (st ++ (kidN kb ks).take i) wr2 ∧ wr2.cell? ⟨sb, so + 8, none⟩ = some (.slice a2 kn c2'))) (fun _ s42 _ => kn - (intOf s42).toNat)
        case atStart => exact ⟨_, m', cap, 0, rfl, rfl, by omega, by omega, Lib.hid ⟨by simpa using HS.out, HQ8.out⟩⟩
        case round =>
          obtain ⟨a, n, cp, i, rfl, rfl, hi, hni, Q⟩ := hrel
          by_cases hlt : i < kn
          · obtain rfl := HKB.out.resolve_left (by omega)
            have q8 := Q.out.2
            have W3 := Lib.hid (Q.out.1.win.keepG (World.grownBy_alloc wr (.cells #[.pointer (some ⟨kb, i * 10, none⟩)] 196) none))
            go_wp2_with (refine wpList_append_win (by rfl) (.tmp 45) (.tmp 52) ptr_el (by rfl) W3.out (by omega) (by rfl) ⟨wr.heap.size, 0, none⟩ 1 (by rfl) [.pointer (some ⟨kb, i * 10, none⟩)] rfl (World.news_of_block (heap_alloc_new wr _)) (by intro u hu; rw [List.mem_singleton] at hu; subst hu; rfl) ?_)
            intro a4 cp4 w4 hw4 ho4 hb4
            have E4 := Lib.hid (And.intro hw4 (And.intro ho4 hb4))
            clear hw4 ho4 hb4 q8
            go_wp2_with fail
            go_roundw
            case rel => exact ⟨a4, n + 1, cp4, i + 1, rfl, by go_num, by omega, by omega, Lib.hid (by
              obtain ⟨h1, h2, h3⟩ := E4.out
              have hpush := Q.out.1.push (s := ⟨kb, i * 10, ks.getD i default⟩) (by rw [List.map_append, List.map_take, List.append_assoc]; exact h1) h2 (by simpa using h3)
              refine ⟨by rw [HKt.out i hlt, ← List.append_assoc]; exact hpush, ?_⟩
              have hb := Q.out.1.cpy.tb sb HTb.out
              rw [World.cell?_of_block (a := ⟨sb, so + 8, none⟩) (h2.block sb (by have := (World.grownBy_alloc wr (.cells #[.pointer (some ⟨kb, i * 10, none⟩)] 196) none).size; omega) (fun e => (Q.out.1.low sb e).2 HTb.out))]
              exact (World.grownBy_alloc wr _ none).cell Q.out.2 (by simp))⟩
            case measure => simp [intOf]; omega
          · obtain rfl : i = kn := by omega
            go_wp2_with fail
            have hlen : (kidN kb ks).length = i := by rw [kidN_len, Hkn.out]
            have hC := Q.out.1
            rw [List.take_of_length_le (Nat.le_of_eq hlen)] at hC
            have hl := hC.len
            have hN := HNs.out
            have hL := Pm.len_ns ((st ++ kidN kb ks).map Nd.x)
            rw [List.length_map] at hL
            have hle := hC.win.le
            go_roundg (Pm.ns ((st ++ kidN kb ks).map Nd.x))
            case measure => omega
            case rel => exact ⟨a, n, cp, rfl, hle, by omega, Lib.hid ⟨_, _, hC, Nat.le_refl _, by omega, hN.2.2⟩⟩
end Go.Proofs.YtjaclmoobfeikaaGreatDoor
