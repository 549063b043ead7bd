/- Catalogs in memory; what the store's number answers. The store's copied: a catalog in new memory. What an operation's key is: schema's first, Key, Of; the store's keyOf. -/
import Derived.Test.YtaggacffjbjchaaGreatDoorZa22
import Derived.Test.YtaggacffjbjchaaGreatDoorZa07
namespace Go.Proofs.YtaggacffjbjchaaGreatDoor
open Go.RowKit

/-- Columns in blocks of S. -/
def ClsS (S : Nat → Prop) (w : World) (a : Option Addr) (l : List Cl) : Prop :=
  l.length ≤ 9223372036854775807 ∧ (l = [] ∨ ∃ b off, a = some ⟨b, off, none⟩ ∧ S b ∧ b < w.heap.size ∧ ∀ i, i < l.length → w.cell? ⟨b, off + i * 3, none⟩ = some (.string (l.getD i default).n) ∧ w.cell? ⟨b, off + i * 3 + 1, none⟩ = some (.int .i64 (l.getD i default).k) ∧ w.cell? ⟨b, off + i * 3 + 2, none⟩ = some (.bool (l.getD i default).b))
theorem ClsS.cols {S : Nat → Prop} {w : World} {a : Option Addr} {l : List Cl} (h : ClsS S w a l) : ColsAt w.heap.size w a l := ⟨h.1, h.2.imp id fun ⟨b, off, e, _, hlt, hc⟩ => ⟨b, off, e, hlt, hc⟩⟩
theorem ClsS.of {w : World} {a : Option Addr} {l : List Cl} (h : ColsAt w.heap.size w a l) : ClsS (fun _ => True) w a l := ⟨h.1, h.2.imp id fun ⟨b, off, e, hlt, hc⟩ => ⟨b, off, e, trivial, hlt, hc⟩⟩
theorem ClsS.keep {S : Nat → Prop} {w w' : World} {a : Option Addr} {l : List Cl} (h : ClsS S w a l) (hk : Stays S w w') : ClsS S w' a l := by
  refine ⟨h.1, h.2.imp id fun ⟨b, off, e, hs, hlt, hc⟩ => ⟨b, off, e, hs, Nat.lt_of_lt_of_le hlt hk.1, fun i hi => ?_⟩⟩
  have hb := hk.2 b hs hlt
  exact ⟨(World.cell?_of_block (a := ⟨b, _, none⟩) hb).trans (hc i hi).1, (World.cell?_of_block (a := ⟨b, _, none⟩) hb).trans (hc i hi).2.1, (World.cell?_of_block (a := ⟨b, _, none⟩) hb).trans (hc i hi).2.2⟩
theorem ClsS.mono {S S' : Nat → Prop} {w : World} {a : Option Addr} {l : List Cl} (h : ClsS S w a l) (hs : ∀ b, b < w.heap.size → S b → S' b) : ClsS S' w a l :=
  ⟨h.1, h.2.imp id fun ⟨b, off, e, h1, h2, hc⟩ => ⟨b, off, e, hs b h2 h1, h2, hc⟩⟩
/-- Tables, with their columns, in blocks of S. -/
def TbsS (S : Nat → Prop) (w : World) (a : Option Addr) (l : List Tb) : Prop :=
  l.length ≤ 9223372036854775807 ∧ (∀ t ∈ l, ClsS S w t.a t.l) ∧ (l = [] ∨ ∃ b off, a = some ⟨b, off, none⟩ ∧ S b ∧ b < w.heap.size ∧ ∀ i, i < l.length → w.cell? ⟨b, off + i * 3, none⟩ = some (.string (l.getD i default).n) ∧ w.cell? ⟨b, off + i * 3 + 1, none⟩ = some (.slice (l.getD i default).a (l.getD i default).l.length (l.getD i default).cap) ∧ w.cell? ⟨b, off + i * 3 + 2, none⟩ = some (.int .i64 (l.getD i default).k))
theorem TbsS.tabs {S : Nat → Prop} {w : World} {a : Option Addr} {l : List Tb} (h : TbsS S w a l) : TabsAt w.heap.size w a l := ⟨h.1, fun t ht => (h.2.1 t ht).cols, h.2.2.imp id fun ⟨b, off, e, _, hlt, hc⟩ => ⟨b, off, e, hlt, hc⟩⟩
theorem TbsS.of {w : World} {a : Option Addr} {l : List Tb} (h : TabsAt w.heap.size w a l) : TbsS (fun _ => True) w a l := ⟨h.1, fun t ht => .of (h.2.1 t ht), h.2.2.imp id fun ⟨b, off, e, hlt, hc⟩ => ⟨b, off, e, trivial, hlt, hc⟩⟩
theorem TbsS.keep {S : Nat → Prop} {w w' : World} {a : Option Addr} {l : List Tb} (h : TbsS S w a l) (hk : Stays S w w') : TbsS S w' a l := by
  refine ⟨h.1, fun t ht => (h.2.1 t ht).keep hk, h.2.2.imp id fun ⟨b, off, e, hs, hlt, hc⟩ => ⟨b, off, e, hs, Nat.lt_of_lt_of_le hlt hk.1, fun i hi => ?_⟩⟩
  have hb := hk.2 b hs hlt
  exact ⟨(World.cell?_of_block (a := ⟨b, _, none⟩) hb).trans (hc i hi).1, (World.cell?_of_block (a := ⟨b, _, none⟩) hb).trans (hc i hi).2.1, (World.cell?_of_block (a := ⟨b, _, none⟩) hb).trans (hc i hi).2.2⟩
theorem TbsS.mono {S S' : Nat → Prop} {w : World} {a : Option Addr} {l : List Tb} (h : TbsS S w a l) (hs : ∀ b, b < w.heap.size → S b → S' b) : TbsS S' w a l :=
  ⟨h.1, fun t ht => (h.2.1 t ht).mono hs, h.2.2.imp id fun ⟨b, off, e, h1, h2, hc⟩ => ⟨b, off, e, hs b h2 h1, h2, hc⟩⟩
theorem TbsS.at {S : Nat → Prop} {w : World} {a : Option Addr} {l : List Tb} (h : TbsS S w a l) {i : Nat} (hi : i < l.length) : ∃ b off, a = some ⟨b, off, none⟩ ∧ b < w.heap.size ∧ w.cell? ⟨b, off + i * 3, none⟩ = some (.string (l.getD i default).n) ∧ w.cell? ⟨b, off + i * 3 + 1, none⟩ = some (.slice (l.getD i default).a (l.getD i default).l.length (l.getD i default).cap) ∧ w.cell? ⟨b, off + i * 3 + 2, none⟩ = some (.int .i64 (l.getD i default).k) := by
  rcases h.2.2 with h0 | ⟨b, off, e, _, hlt, hc⟩
  · rw [h0] at hi; simp at hi
  · exact ⟨b, off, e, hlt, hc i hi⟩
/-- The closure of number: is it the table's name? -/
theorem numIs_any (N M : ByteArray) (a : Option Addr) (m cap : Nat) (k : Int) (g : Nat) (w : World) (hc : w.cell? ⟨g, 0, none⟩ = some (.string M)) :
    Calls Tryz.prog 71 #[.agg #[.string N, .slice a m cap, .int .i64 k], .pointer (some ⟨g, 0, none⟩)] w fun e w' => e = .returned (.bool (N.toList == M.toList)) ∧ w.grownBy w' none := by
  have hc2 : ∀ o, (w.alloc o).cell? ⟨g, 0, none⟩ = some (.string M) := fun o => (World.grownBy_alloc w o none).cell hc (by simp)
  go_enter Tryz.func71, Tryz.ntmps71
  go_wp2_with fail
  go_ret
  exact ⟨rfl, World.grownBy_alloc _ _ _⟩
set_option maxHeartbeats 1600000 in
theorem indexNum_any (a : Option Addr) (cap : Nat) (l : List Tb) (M : ByteArray) (g : Nat) (w : World) (h : TabsAt w.heap.size w a l) (hc : w.cell? ⟨g, 0, none⟩ = some (.string M)) :
    Calls Tryz.prog 70 #[.slice a l.length cap, .func (.func 71) #[] #[.pointer (some ⟨g, 0, none⟩)]] w fun e w' => (∃ r, e = .returned (.int .i64 r) ∧ TxIs M l r) ∧ w.grownBy w' none := by
  have H := Lib.hid h
  have HC := Lib.hid (fun (W : World) (hW : w.grownBy W none) (N : ByteArray) (a : Option Addr) (m cap : Nat) (k : Int) => numIs_any N M a m cap k g W (hW.cell hc (by simp)))
  have hlen := h.1
  obtain ⟨n, hn⟩ : ∃ n, n = l.length := ⟨_, rfl⟩
  have Hn := Lib.hid hn
  rw [← hn] at hlen ⊢
  clear h hc hn
  go_enter Tryz.func70, Tryz.ntmps70
  go_wp2_with fail
  go_loopw [8] (fun i wr => ∃ (k : Nat), i = .int .i64 k ∧ k ≤ n ∧ Hid (tabIx M l k) ∧ Hid (w.grownBy wr none)) (fun i _ => n - (intOf i).toNat)
  case atStart => exact ⟨0, rfl, by omega, Lib.hid (fun i hi => by omega), Lib.hid (grown_refl6 _ _)⟩
  case round =>
    obtain ⟨k, rfl, hk, E, K⟩ := hrel
    by_cases hlt : k < n
    · obtain ⟨b, off, rfl, _, c0, c1, c2⟩ := (H.out.keep K.out (by simp)).at (i := k) (by rw [← Hn.out]; exact hlt)
      obtain ⟨x, hx⟩ : ∃ x, x = l.getD k default := ⟨_, rfl⟩
      rw [← hx] at c0 c1 c2
      have Hx := Lib.hid hx
      obtain ⟨xn, xa, xc, xl, xk⟩ := x
      generalize hxl : xl.length = xm at *
      simp only at c0 c1 c2
      clear hx
      have HC1 := Lib.hid (HC.out wr K.out xn xa xm xc xk)
      by_cases hm : (xn.toList == M.toList) = true
      · have HM := Lib.hid (show ((l.getD k default).n.toList == M.toList) = true by rw [← Hx.out]; exact hm)
        rw [hm] at HC1
        clear hm
        go_wp2_with fail
        refine HC1.out.mono ?_
        rintro e w2 ⟨rfl, hg⟩
        have K2 := Lib.hid (K.out.trans hg)
        clear hg
        go_wp2_with fail
        go_ret
        exact ⟨⟨k, rfl, .inr ⟨k, rfl, by rw [← Hn.out]; exact hlt, HM.out, E.out⟩⟩, K2.out⟩
      · have hm' : (xn.toList == M.toList) = false := by simpa using hm
        have E2 : Hid (tabIx M l (k + 1)) := Lib.hid fun i hi => by
          by_cases e : i = k
          · rw [e, ← Hx.out]; exact hm'
          · exact E.out i (by omega)
        rw [hm'] at HC1
        clear hm hm'
        go_wp2_with fail
        refine HC1.out.mono ?_
        rintro e w2 ⟨rfl, hg⟩
        have K2 := Lib.hid (K.out.trans hg)
        clear hg
        go_wp2_with fail
        go_roundw
        case rel => exact ⟨k + 1, by go_num, by omega, E2, K2⟩
        case measure => simp [intOf]; omega
    · obtain rfl : k = n := by omega
      go_wp2_with fail
      go_ret
      exact ⟨⟨-1, rfl, .inl ⟨rfl, by rw [← Hn.out]; exact E.out⟩⟩, K.out⟩
set_option maxHeartbeats 1600000 in
theorem number_any (S : Nat → Prop) (b : Nat) (a : Option Addr) (cap : Nat) (l : List Tb) (M : ByteArray) (w : World) (h : TbsS S w a l) (hc : w.cell? ⟨b, 0, none⟩ = some (.slice a l.length cap)) :
    Calls Tryz.prog 45 #[.pointer (some ⟨b, 0, none⟩), .string M] w fun e w' => (∃ r, e = .returned (.int .i64 r) ∧ TxIs M l r) ∧ w.grownBy w' none := by
  have hb : ∀ T, (w.alloc (.cells #[.string M] T)).cell? ⟨w.heap.size, 0, none⟩ = some (.string M) := fun T => cell_of_row _ _ 0 _ _ _ (heap_alloc_new w _)
  have HI := Lib.hid (fun T => indexNum_any a cap l M w.heap.size (w.alloc (.cells #[.string M] T)) (h.keep (.of (World.grownBy_alloc w _ none))).tabs (hb T))
  have hc2 : ∀ o, (w.alloc o).cell? ⟨b, 0, none⟩ = some (.slice a l.length cap) := fun o => (World.grownBy_alloc w o none).cell hc (by simp)
  generalize l.length = n at *
  clear h hc hb
  go_enter Tryz.func45, Tryz.ntmps45
  go_wp2_with fail
  refine (HI.out _).mono ?_
  rintro e w2 ⟨⟨r, rfl, hr⟩, hg⟩
  have HR := Lib.hid hr
  have K2 := Lib.hid ((World.grownBy_alloc w _ none).trans hg)
  clear hg hr
  go_wp2_with fail
  go_ret
  exact ⟨⟨r, rfl, HR.out⟩, K2.out⟩
end Go.Proofs.YtaggacffjbjchaaGreatDoor
namespace Go.Proofs.YtaggacffjbjchaaGreatDoor
open Go.RowKit

def Cl.c (x : Cl) : List Value := [.string x.n, .int .i64 x.k, .bool x.b]
theorem cl_len (l : List Cl) : (l.flatMap Cl.c).length = l.length * 3 := by
  induction l with
  | nil => rfl
  | cons x l ih => rw [List.flatMap_cons, List.length_append, ih]; simp [Cl.c]; omega
theorem cl_at (l : List Cl) : ∀ i, i < l.length → (l.flatMap Cl.c)[i * 3]? = some (.string (l.getD i default).n) ∧ (l.flatMap Cl.c)[i * 3 + 1]? = some (.int .i64 (l.getD i default).k) ∧ (l.flatMap Cl.c)[i * 3 + 2]? = some (.bool (l.getD i default).b) := by
  induction l with
  | nil => intro i hi; simp at hi
  | cons x l ih =>
    intro i hi
    rw [List.flatMap_cons]
    match i, hi with
    | 0, _ => exact ⟨rfl, rfl, rfl⟩
    | i + 1, hi =>
      have := ih i (by simpa using hi)
      have e : ∀ o, (Cl.c x ++ l.flatMap Cl.c)[(i + 1) * 3 + o]? = (l.flatMap Cl.c)[i * 3 + o]? := fun o => by
        rw [List.getElem?_append_right (by simp [Cl.c]; omega)]
        congr 1
        simp [Cl.c]
        omega
      have e0 := e 0
      simp only [Nat.add_zero] at e0
      rw [e0, e 1, e 2]
      simpa [List.getD] using this
theorem cl_one (l : List Cl) : ∀ u ∈ l.flatMap Cl.c, u.oneCell' = true := by
  intro u hu
  rw [List.mem_flatMap] at hu
  obtain ⟨x, _, hu⟩ := hu
  simp only [Cl.c, List.mem_cons, List.not_mem_nil, or_false] at hu
  rcases hu with rfl | rfl | rfl <;> rfl
theorem cl_info : (Tryz.prog.info? 127).map (fun i => (i.zero, i.size, i.bytes)) = some (some (.agg #[.string ⟨#[]⟩, .int .i64 0, .bool false]), 3, 32) := by kernel_rfl
def Tb.c (x : Tb) : List Value := [.string x.n, .slice x.a x.l.length x.cap, .int .i64 x.k]
def Tb.p (x : Tb) : ByteArray × List Cl × Int := (x.n, x.l, x.k)
theorem tb_len (l : List Tb) : (l.flatMap Tb.c).length = l.length * 3 := by
  induction l with
  | nil => rfl
  | cons x l ih => rw [List.flatMap_cons, List.length_append, ih]; simp [Tb.c]; omega
theorem tb_at (l : List Tb) : ∀ i, i < l.length → (l.flatMap Tb.c)[i * 3]? = some (.string (l.getD i default).n) ∧ (l.flatMap Tb.c)[i * 3 + 1]? = some (.slice (l.getD i default).a (l.getD i default).l.length (l.getD i default).cap) ∧ (l.flatMap Tb.c)[i * 3 + 2]? = some (.int .i64 (l.getD i default).k) := by
  induction l with
  | nil => intro i hi; simp at hi
  | cons x l ih =>
    intro i hi
    rw [List.flatMap_cons]
    match i, hi with
    | 0, _ => exact ⟨rfl, rfl, rfl⟩
    | i + 1, hi =>
      have := ih i (by simpa using hi)
      have e : ∀ o, (Tb.c x ++ l.flatMap Tb.c)[(i + 1) * 3 + o]? = (l.flatMap Tb.c)[i * 3 + o]? := fun o => by
        rw [List.getElem?_append_right (by simp [Tb.c]; omega)]
        congr 1
        simp [Tb.c]
        omega
      have e0 := e 0
      simp only [Nat.add_zero] at e0
      rw [e0, e 1, e 2]
      simpa [List.getD] using this
theorem tb_one (l : List Tb) : ∀ u ∈ l.flatMap Tb.c, u.oneCell' = true := by
  intro u hu
  rw [List.mem_flatMap] at hu
  obtain ⟨x, _, hu⟩ := hu
  simp only [Tb.c, List.mem_cons, List.not_mem_nil, or_false] at hu
  rcases hu with rfl | rfl | rfl <;> rfl
theorem tb_info : (Tryz.prog.info? 38).map (fun i => (i.zero, i.size, i.bytes)) = some (some (.agg #[.string ⟨#[]⟩, .slice none 0 0, .int .i64 0]), 3, 48) := by kernel_rfl
/-- Cells of three, one element after the other. -/
theorem three_cells {w : World} {b off n : Nat} {xs : List Value} {f : Nat → Value × Value × Value} (hl : xs.length = n * 3) (hx : ∀ i, i < n → xs[i * 3]? = some (f i).1 ∧ xs[i * 3 + 1]? = some (f i).2.1 ∧ xs[i * 3 + 2]? = some (f i).2.2)
    (hc : ∀ i, i < n → w.cell? ⟨b, off + i * 3, none⟩ = some (f i).1 ∧ w.cell? ⟨b, off + i * 3 + 1, none⟩ = some (f i).2.1 ∧ w.cell? ⟨b, off + i * 3 + 2, none⟩ = some (f i).2.2) : ∀ j u, xs[j]? = some u → w.cell? ((⟨b, off, none⟩ : Addr).add j) = some u := by
  intro j u hj
  have hjl : j < n * 3 := by have := (List.getElem?_eq_some_iff.1 hj).1; omega
  have hk := hx (j / 3) (by omega)
  have hcc := hc (j / 3) (by omega)
  rw [add_atT]
  obtain h3 | h3 | h3 : j = j / 3 * 3 ∨ j = j / 3 * 3 + 1 ∨ j = j / 3 * 3 + 2 := by omega
  · rw [h3] at hj ⊢
    rw [hk.1] at hj; cases hj; exact hcc.1
  · rw [h3] at hj ⊢
    rw [show off + (j / 3 * 3 + 1) = off + j / 3 * 3 + 1 by omega]
    rw [hk.2.1] at hj; cases hj; exact hcc.2.1
  · rw [h3] at hj ⊢
    rw [show off + (j / 3 * 3 + 2) = off + j / 3 * 3 + 2 by omega]
    rw [hk.2.2] at hj; cases hj; exact hcc.2.2
theorem cls_cells {S : Nat → Prop} {w : World} {ad : Addr} {l : List Cl} (h : ClsS S w (some ad) l) : ∀ j u, (l.flatMap Cl.c)[j]? = some u → w.cell? (ad.add j) = some u := by
  rcases h.2 with h0 | ⟨b, off, e, _, hlt, hc⟩
  · intro j u hj; rw [h0] at hj; simp at hj
  · cases e
    exact three_cells (n := l.length) (f := fun i => (.string (l.getD i default).n, .int .i64 (l.getD i default).k, .bool (l.getD i default).b)) (cl_len l) (cl_at l) hc
theorem tbs_cells {S : Nat → Prop} {w : World} {ad : Addr} {l : List Tb} (h : TbsS S w (some ad) l) : ∀ j u, (l.flatMap Tb.c)[j]? = some u → w.cell? (ad.add j) = some u := by
  rcases h.2.2 with h0 | ⟨b, off, e, _, hlt, hc⟩
  · intro j u hj; rw [h0] at hj; simp at hj
  · cases e
    exact three_cells (n := l.length) (f := fun i => (.string (l.getD i default).n, .slice (l.getD i default).a (l.getD i default).l.length (l.getD i default).cap, .int .i64 (l.getD i default).k)) (tb_len l) (tb_at l) hc
theorem own_cls {S : Nat → Prop} {B n : Nat} {w : World} {v : Value} {l : List Cl} (h : w.ownsRow B 127 3 v n (l.flatMap Cl.c)) (hn : n = l.length) (hS : ∀ b, B ≤ b → S b) (hl : l.length ≤ 9223372036854775807) : ∃ a cap, v = .slice a n cap ∧ n ≤ cap ∧ ClsS S w a l := by
  subst hn
  rcases h.2 with ⟨hv, h0⟩ | ⟨g, cap, cur, hv, hb, hg, hc, _⟩
  · exact ⟨none, 0, by rw [hv, h0], by omega, hl, .inl (List.eq_nil_of_length_eq_zero h0)⟩
  · have hlt := (h.lt g (by rw [hv]; rfl)).2
    refine ⟨some ⟨g, 0, none⟩, cap, hv, hc, hl, .inr ⟨g, 0, rfl, hS g hb, hlt, fun i hi => ?_⟩⟩
    have c := h.cells (g := g) (by rw [hv]; rfl)
    have k := cl_at l i hi
    have c0 := c _ _ k.1
    have c1 := c _ _ k.2.1
    have c2 := c _ _ k.2.2
    rw [add_atT] at c0 c1 c2
    exact ⟨c0, c1, c2⟩
theorem own_tbs {S : Nat → Prop} {B n : Nat} {w : World} {v : Value} {l : List Tb} (h : w.ownsRow B 38 3 v n (l.flatMap Tb.c)) (hn : n = l.length) (hS : ∀ b, B ≤ b → S b) (hl : l.length ≤ 9223372036854775807) (hs : ∀ t ∈ l, ClsS S w t.a t.l) : ∃ a cap, v = .slice a n cap ∧ n ≤ cap ∧ TbsS S w a l := by
  subst hn
  rcases h.2 with ⟨hv, h0⟩ | ⟨g, cap, cur, hv, hb, hg, hc, _⟩
  · exact ⟨none, 0, by rw [hv, h0], by omega, hl, hs, .inl (List.eq_nil_of_length_eq_zero h0)⟩
  · have hlt := (h.lt g (by rw [hv]; rfl)).2
    refine ⟨some ⟨g, 0, none⟩, cap, hv, hc, hl, hs, .inr ⟨g, 0, rfl, hS g hb, hlt, fun i hi => ?_⟩⟩
    have c := h.cells (g := g) (by rw [hv]; rfl)
    have k := tb_at l i hi
    have c0 := c _ _ k.1
    have c1 := c _ _ k.2.1
    have c2 := c _ _ k.2.2
    rw [add_atT] at c0 c1 c2
    exact ⟨c0, c1, c2⟩
set_option maxRecDepth 100000 in
set_option maxHeartbeats 1600000 in
theorem cloneCl_any (S : Nat → Prop) (a : Option Addr) (cap : Nat) (l : List Cl) (w : World) (h : ClsS S w a l) (hl : l.length ≤ 100) :
    Calls Tryz.prog 59 #[.slice a l.length cap] w fun e w' => (∃ a' cap', e = .returned (.slice a' l.length cap') ∧ l.length ≤ cap' ∧ ClsS (fun b => w.heap.size ≤ b) w' a' l) ∧ w.grownBy w' none := by
  cases a with
  | none =>
    obtain rfl : l = [] := by
      rcases h.2 with h | ⟨b, off, e, _⟩
      · exact h
      · cases e
    have hE : ∀ w, (binOp .eql 36 (.slice none 0 cap) (.slice none 0 0)).run Tryz.prog w = .ok (.bool true) w := fun w => Lib.run_eql_slice_nil w _ _ _ _ _ _ _ Tryz.underlying36
    clear h hl
    go_enter Tryz.func59, Tryz.ntmps59
    go_wp2_with fail
    go_ret
    exact ⟨⟨none, 0, rfl, Nat.le_refl _, by simp, .inl rfl⟩, grown_reflT _ _⟩
  | some ad =>
    have HC : Hid (∀ W, w.grownBy W none → ∀ j u, (l.flatMap Cl.c)[j]? = some u → W.cell? (ad.add j) = some u) := Lib.hid fun W hW => cls_cells (h.keep (.of hW))
    have HL := Lib.hid (cl_len l)
    obtain ⟨m, hm⟩ : ∃ m, m = l.length := ⟨_, rfl⟩
    have Hm := Lib.hid hm
    rw [← hm] at HL hl ⊢
    clear h hm
    obtain ⟨i0, hi, hz0, hz1, hz2⟩ := info_partsT cl_info
    have hE : ∀ w, (binOp .eql 36 (.slice (some ad) m cap) (.slice none 0 0)).run Tryz.prog w = .ok (.bool false) w := fun w => Lib.run_eql_slice_nil w _ _ _ _ _ _ _ Tryz.underlying36
    go_enter Tryz.func59, Tryz.ntmps59
    go_wp2_with (at_builtin; refine wpList_append_own _ rfl _ _ 36 rfl w.heap.size 127 i0 (.agg #[.string ⟨#[]⟩, .int .i64 0, .bool false]) 3 32 Tryz.underlying36 hi hz0 hz1 hz2 rfl (by decide) _ 0 [] rfl (own_madeT _ _ w _ _ rfl (Nat.le_refl _)) ad m cap (l.flatMap Cl.c) rfl HL.out ?c1 ?c2 ?c3 ?c4 ?c5 ?_)
    case c1 => exact HC.out _ (World.grownBy_alloc _ _ _)
    case c2 => exact cl_one _
    case c3 => unfold maxLen; omega
    case c4 => omega
    case c5 => simp
    intro v' w3 hown' hgrow _
    have K3 := Lib.hid (grown_thenT (World.grownBy_alloc w _ none) hgrow (by intro j hj; simp [Value.ownBlock] at hj; omega))
    have O3 := Lib.hid (show w3.ownsRow w.heap.size 127 3 v' m (l.flatMap Cl.c) by simpa using hown')
    clear hown' hgrow
    go_wp2_with fail
    go_ret
    obtain ⟨a', cap', hv, h1, h2⟩ := own_cls (S := fun b => w.heap.size ≤ b) O3.out Hm.out (fun _ h => h) (by rw [← Hm.out]; omega)
    exact ⟨⟨a', cap', congrArg Ending.returned hv, h1, h2⟩, K3.out⟩
set_option maxRecDepth 100000 in
set_option maxHeartbeats 1600000 in
theorem cloneTb_any (S : Nat → Prop) (a : Option Addr) (cap : Nat) (l : List Tb) (w : World) (h : TbsS S w a l) (hl : l.length ≤ 100) :
    Calls Tryz.prog 58 #[.slice a l.length cap] w fun e w' => (∃ a' cap', e = .returned (.slice a' l.length cap') ∧ l.length ≤ cap' ∧ w'.ownsRow w.heap.size 38 3 (.slice a' l.length cap') l.length (l.flatMap Tb.c)) ∧ w.grownBy w' none := by
  cases a with
  | none =>
    obtain rfl : l = [] := by
      rcases h.2.2 with h | ⟨b, off, e, _⟩
      · exact h
      · cases e
    have hE : ∀ w, (binOp .eql 22 (.slice none 0 cap) (.slice none 0 0)).run Tryz.prog w = .ok (.bool true) w := fun w => Lib.run_eql_slice_nil w _ _ _ _ _ _ _ Tryz.underlying22
    clear h hl
    go_enter Tryz.func58, Tryz.ntmps58
    go_wp2_with fail
    go_ret
    exact ⟨⟨none, 0, rfl, Nat.le_refl _, World.ownsRow_nil _ _ _ _⟩, grown_reflT _ _⟩
  | some ad =>
    have HC : Hid (∀ W, w.grownBy W none → ∀ j u, (l.flatMap Tb.c)[j]? = some u → W.cell? (ad.add j) = some u) := Lib.hid fun W hW => tbs_cells (h.keep (.of hW))
    have HL := Lib.hid (tb_len l)
    obtain ⟨m, hm⟩ : ∃ m, m = l.length := ⟨_, rfl⟩
    rw [← hm] at HL hl ⊢
    clear h hm
    obtain ⟨i0, hi, hz0, hz1, hz2⟩ := info_partsT tb_info
    have hE : ∀ w, (binOp .eql 22 (.slice (some ad) m cap) (.slice none 0 0)).run Tryz.prog w = .ok (.bool false) w := fun w => Lib.run_eql_slice_nil w _ _ _ _ _ _ _ Tryz.underlying22
    go_enter Tryz.func58, Tryz.ntmps58
    go_wp2_with (at_builtin; refine wpList_append_own _ rfl _ _ 22 rfl w.heap.size 38 i0 (.agg #[.string ⟨#[]⟩, .slice none 0 0, .int .i64 0]) 3 48 Tryz.underlying22 hi hz0 hz1 hz2 rfl (by decide) _ 0 [] rfl (own_madeT _ _ w _ _ rfl (Nat.le_refl _)) ad m cap (l.flatMap Tb.c) rfl HL.out ?c1 ?c2 ?c3 ?c4 ?c5 ?_)
    case c1 => exact HC.out _ (World.grownBy_alloc _ _ _)
    case c2 => exact tb_one _
    case c3 => unfold maxLen; omega
    case c4 => omega
    case c5 => simp
    intro v' w3 hown' hgrow _
    have K3 := Lib.hid (grown_thenT (World.grownBy_alloc w _ none) hgrow (by intro j hj; simp [Value.ownBlock] at hj; omega))
    have O3 := Lib.hid (show w3.ownsRow w.heap.size 38 3 v' m (l.flatMap Tb.c) by simpa using hown')
    clear hown' hgrow
    go_wp2_with fail
    go_ret
    obtain ⟨a', cap', hv, hw, _⟩ := own_win O3.out
    have hO := O3.out
    rw [hv] at hO
    exact ⟨⟨a', cap', congrArg Ending.returned hv, hw.le, hO⟩, K3.out⟩
/-- The first tables are copied. -/
structure CopT (S : Nat → Prop) (k : Nat) (w : World) (l D : List Tb) : Prop where
  len : D.length = k
  le : k ≤ l.length
  same : D.map Tb.p = (l.take k).map Tb.p
  at_ : ∀ x ∈ D, ClsS S w x.a x.l ∧ x.l.length ≤ x.cap
theorem CopT.keep {S : Nat → Prop} {k : Nat} {w w' : World} {l D : List Tb} (h : CopT S k w l D) (hk : Stays S w w') : CopT S k w' l D :=
  ⟨h.len, h.le, h.same, fun x hx => ⟨(h.at_ x hx).1.keep hk, (h.at_ x hx).2⟩⟩
theorem CopT.push {S : Nat → Prop} {k : Nat} {w : World} {l D : List Tb} (h : CopT S k w l D) (hk : k < l.length) {a : Option Addr} {cap : Nat} (h1 : ClsS S w a (l.getD k default).l) (h2 : (l.getD k default).l.length ≤ cap) : CopT S (k + 1) w l (D ++ [⟨(l.getD k default).n, a, cap, (l.getD k default).l, (l.getD k default).k⟩]) := by
  refine ⟨by simp [h.len], hk, ?_, fun x hx => ?_⟩
  · rw [List.take_succ_eq_append_getElem hk, List.map_append, List.map_append, h.same]
    congr 1
    simp [Tb.p, List.getD, hk]
  · rw [List.mem_append, List.mem_singleton] at hx
    rcases hx with hx | rfl
    · exact h.at_ x hx
    · exact ⟨h1, h2⟩
theorem copT_set (D R : List Tb) (x : Tb) (a : Option Addr) (cap : Nat) (k : Nat) (hk : D.length = k) : ((D ++ x :: R).flatMap Tb.c).set (k * 3 + 1) (.slice a x.l.length cap) = (D ++ ⟨x.n, a, cap, x.l, x.k⟩ :: R).flatMap Tb.c := by
  have hl := tb_len D
  rw [List.flatMap_append, List.flatMap_append, List.set_append_right _ _ (by omega)]
  rw [List.flatMap_cons, List.flatMap_cons, hl, hk]
  have e1 : k * 3 + 1 - k * 3 = 1 := by omega
  rw [e1]
  rfl
theorem tb_drop {l : List Tb} {k : Nat} (h : k < l.length) : l.drop k = l.getD k default :: l.drop (k + 1) := by
  rw [List.drop_eq_getElem_cons h]; simp [List.getD, h]
set_option maxRecDepth 100000 in
set_option maxHeartbeats 6400000 in
theorem copiedT_any (S : Nat → Prop) (a : Ptr) (cap : Nat) (l : List Tb) (w : World) (h : TbsS S w a l) (hl : l.length ≤ 100) (hcl : ∀ t ∈ l, t.l.length ≤ 100) :
    Calls Tryz.prog 37 #[.slice a l.length cap] w fun e w' => (∃ a' cap' l', e = .returned (.slice a' l.length cap') ∧ l'.length = l.length ∧ l.length ≤ cap' ∧ l'.map Tb.p = l.map Tb.p ∧ TbsS (fun b => w.heap.size ≤ b) w' a' l' ∧ ∀ t ∈ l', t.l.length ≤ t.cap) ∧ w.grownBy w' none := by
  have HC := Lib.hid (cloneTb_any S a cap l w h hl)
  have HR := Lib.hid (fun k (hk : k < l.length) W (hW : Below w.heap.size w W) => cloneCl_any S (l.getD k default).a (l.getD k default).cap (l.getD k default).l W ((h.2.1 _ (tb_mem hk)).keep (.of (grown_belowT hW none))) (hcl _ (tb_mem hk)))
  obtain ⟨n, hn⟩ : ∃ n, n = l.length := ⟨_, rfl⟩
  have Hn := Lib.hid hn
  rw [← hn] at HC HR hl ⊢
  clear h hn hcl
  go_enter Tryz.func37, Tryz.ntmps37
  go_wp2_with fail
  refine HC.out.mono ?_
  rintro e w1 ⟨⟨a', cap', rfl, hcap', hown⟩, hg1⟩
  have I0 := Lib.hid (show CopT (fun b => w.heap.size ≤ b ∧ ¬ bk a' b) 0 w1 l [] ∧ w1.ownsRow w.heap.size 38 3 (.slice a' n cap') n (([] ++ l.drop 0).flatMap Tb.c) ∧ Below w.heap.size w w1 from ⟨⟨rfl, Nat.zero_le _, by simp, by simp⟩, by simpa using hown, below_grownT hg1⟩)
  clear hg1 hown
  go_wp2_with fail
  go_loopw [8] (fun i wr => ∃ k : Nat, i = .int .i64 k ∧ k ≤ n ∧ Hid (∃ D, CopT (fun b => w.heap.size ≤ b ∧ ¬ bk a' b) k wr l D ∧ wr.ownsRow w.heap.size 38 3 (.slice a' n cap') n ((D ++ l.drop k).flatMap Tb.c) ∧ Below w.heap.size w wr)) (fun i _ => n - (intOf i).toNat)
  case atStart => exact ⟨0, rfl, by omega, Lib.hid ⟨[], I0.out⟩⟩
  case round =>
    obtain ⟨k, rfl, hk, I⟩ := hrel
    obtain ⟨D, hD, hown, hb⟩ := I.out
    by_cases hlt : k < n
    · obtain ⟨g, cp, e, hgB, hgl⟩ := World.ownsRow.form hown (by omega)
      obtain ⟨rfl, rfl⟩ : a' = some ⟨g, 0, none⟩ ∧ cap' = cp := by simpa using e
      have hkl : k < l.length := by rw [← Hn.out]; exact hlt
      have HX := Lib.hid (HR.out k hlt)
      have hd := tb_drop hkl
      have hlen1 := hD.len
      have hcl := tb_len D
      have c1 := World.ownsRow.cellAt hown (k * 3 + 1) (by omega)
      rw [List.flatMap_append, List.getElem?_append_right (by omega), hcl, hlen1, show k * 3 + 1 - k * 3 = 1 by omega, hd] at c1
      simp only [List.flatMap_cons, Tb.c, List.cons_append, List.getElem?_cons_zero, List.getElem?_cons_succ] at c1
      obtain ⟨x, hx⟩ : ∃ x, x = l.getD k default := ⟨_, rfl⟩
      rw [← hx] at c1 hd HX
      have Hx := Lib.hid (And.intro hx (And.intro hD (And.intro hb (And.intro hown hd))))
      obtain ⟨xn, xa, xc, xl, xk⟩ := x
      simp only at c1 HX
      obtain ⟨q, hq⟩ : ∃ q, q = xl.length := ⟨_, rfl⟩
      rw [← hq] at c1 HX
      have Hq := Lib.hid hq
      have HXb := Lib.hid (HX.out wr hb)
      clear hx hD hb hown hd I hq hcl
      go_wp2_with fail
      refine HXb.out.mono ?_
      rintro e w2 ⟨⟨ya, yc, rfl, hyc, hys⟩, hg2⟩
      have c2 := hg2.cell c1 (by simp)
      have f2 : w2.frozen? ⟨g, k * 3 + 1, none⟩ = false := World.ownsRow.frozenAt (World.ownsRow.kept Hx.out.2.2.2.1 hg2 (.inr (by simp [Value.ownBlock]))) _
      have Z := Lib.hid (And.intro hyc (And.intro hys hg2))
      clear c1 hys hg2 hyc
      go_wp2_with fail
      go_roundw
      case rel =>
        obtain ⟨hyc, hys, hg2⟩ := Z.out
        obtain ⟨hx, hD, hb, hown, hd⟩ := Hx.out
        have h5 := World.ownsRow.stored (World.ownsRow.kept hown hg2 (.inr (by simp [Value.ownBlock]))) (k * 3 + 1) (.slice ya q yc)
        have h6 := copT_set D (l.drop (k + 1)) ⟨xn, xa, xc, xl, xk⟩ ya yc k hlen1
        simp only at h6
        rw [← Hq.out] at h6
        rw [hd, h6] at h5
        have hst : Stays (fun b => w.heap.size ≤ b ∧ ¬ bk (some ⟨g, 0, none⟩ : Ptr) b) w2 (w2.setCell ⟨g, k * 3 + 1, none⟩ (.slice ya q yc)) := (Only.one g w2 _ _).stays (fun b hb _ e => hb.2 (by rw [bk_some]; exact e.symm))
        refine ⟨k + 1, by go_num, by omega, Lib.hid ⟨D ++ [⟨(l.getD k default).n, ya, yc, (l.getD k default).l, (l.getD k default).k⟩], ?_, ?_, ?_⟩⟩
        · refine ((hD.keep (.of hg2)).keep hst).push hkl ?_ (by rw [← hx]; simp only; rw [← Hq.out]; exact hyc)
          rw [← hx]
          exact (hys.mono (fun b _ hb5 => ⟨by have := hb.size; omega, fun e => by rw [bk_some] at e; omega⟩)).keep hst
        · rw [List.append_assoc, ← hx]
          exact h5.1
        · exact (hb.trans ((below_grownT hg2).mono hb.size)).setCell (p := ⟨g, _, none⟩) hgB _
      case measure => simp [intOf]; omega
    · obtain rfl : k = n := by omega
      go_wp2_with fail
      go_ret
      have hkl : k = l.length := Hn.out
      have hd0 : l.drop k = [] := List.drop_of_length_le (by omega)
      rw [hd0, List.append_nil] at hown
      obtain ⟨a2, c2, e2, hc2, hcg⟩ := own_tbs (S := fun b => w.heap.size ≤ b) hown hD.len.symm (fun b hb => hb) (by rw [hD.len]; omega) (fun x hx => (hD.at_ x hx).1.mono (fun b _ h => h.1))
      have e3 : a2 = a' ∧ c2 = cap' := by
        have := Value.slice.inj e2
        exact ⟨this.1.symm, this.2.2.symm⟩
      obtain ⟨rfl, rfl⟩ := e3
      have hs := hD.same
      rw [List.take_of_length_le (by omega)] at hs
      exact ⟨⟨a2, c2, D, rfl, hD.len, hc2, hs, hcg, fun t ht => (hD.at_ t ht).2⟩, grown_belowT hb none⟩
end Go.Proofs.YtaggacffjbjchaaGreatDoor
namespace Go.Proofs.YtaggacffjbjchaaGreatDoor
open Go.RowKit

set_option maxRecDepth 100000 in
set_option maxHeartbeats 1600000 in
theorem cloneV_any (S : Nat → Prop) (a : Option Addr) (cap : Nat) (l : List Vl) (w : World) (h : RowAt w a l) (hl : l.length ≤ 4294967296) (hS : ∀ b, w.heap.size ≤ b → S b) :
    Calls Tryz.prog 128 #[.slice a l.length cap] w fun e w' => (∃ a' cap', e = .returned (.slice a' l.length cap') ∧ (a' = none → cap' = 0) ∧ RwS S w' a' l) ∧ w.grownBy w' none := by
  cases a with
  | none =>
    obtain rfl : l = [] := by
      rcases h.2.2 with h | ⟨b, off, e, _⟩
      · exact h
      · cases e
    have hE : ∀ w, (binOp .eql 66 (.slice none 0 cap) (.slice none 0 0)).run Tryz.prog w = .ok (.bool true) w := fun w => Lib.run_eql_slice_nil w _ _ _ _ _ _ _ Tryz.underlying66
    clear h hS hl
    go_enter Tryz.func128, Tryz.ntmps128
    go_wp2_with fail
    go_ret
    exact ⟨⟨none, 0, rfl, fun _ => rfl, by simp, by simp, .inl rfl⟩, grown_reflT _ _⟩
  | some ad =>
    have HC : Hid (∀ W, w.grownBy W none → ∀ j u, (l.flatMap vCT)[j]? = some u → W.cell? (ad.add j) = some u) := Lib.hid fun W hW j u hj => by
      rcases h.2.2 with h0 | ⟨b, off, e, hlt, hc⟩
      · rw [h0] at hj; simp at hj
      · cases e
        have := vl_cells (w := W) (b := b) (off := off) (r := l) (fun i hi => ⟨hW.cell (hc i hi).1 (by simp), hW.cell (hc i hi).2.1 (by simp), hW.cell (hc i hi).2.2 (by simp)⟩) l.length 0 (by omega) j u (by simpa using hj)
        simpa using this
    have Hs := Lib.hid h.2.1
    have HL := Lib.hid (vCT_len l)
    obtain ⟨m, hm⟩ : ∃ m, m = l.length := ⟨_, rfl⟩
    have Hm := Lib.hid hm
    rw [← hm] at HL hl ⊢
    clear h hm
    obtain ⟨i0, hi, hz0, hz1, hz2⟩ := info_partsT val_infoT
    have hE : ∀ w, (binOp .eql 66 (.slice (some ad) m cap) (.slice none 0 0)).run Tryz.prog w = .ok (.bool false) w := fun w => Lib.run_eql_slice_nil w _ _ _ _ _ _ _ Tryz.underlying66
    go_enter Tryz.func128, Tryz.ntmps128
    go_wp2_with (at_builtin; refine wpList_append_own _ rfl _ _ 66 rfl w.heap.size 79 i0 (.agg #[.int .i64 0, .int .i64 0, .string ⟨#[]⟩]) 3 32 Tryz.underlying66 hi hz0 hz1 hz2 rfl (by decide) _ 0 [] rfl (own_madeT _ _ w _ _ rfl (Nat.le_refl _)) ad m cap (l.flatMap vCT) rfl HL.out ?c1 ?c2 ?c3 ?c4 ?c5 ?_)
    case c1 => exact HC.out _ (World.grownBy_alloc _ _ _)
    case c2 => exact vCT_one _
    case c3 => unfold maxLen; omega
    case c4 => omega
    case c5 => simp
    intro v' w3 hown' hgrow _
    have K3 := Lib.hid (grown_thenT (World.grownBy_alloc w _ none) hgrow (by intro j hj; simp [Value.ownBlock] at hj; omega))
    have O3 := Lib.hid (show w3.ownsRow w.heap.size 79 3 v' l.length (l.flatMap vCT) by rw [← Hm.out]; simpa using hown')
    clear hown' hgrow
    go_wp2_with fail
    go_ret
    obtain ⟨a', cap', hv, hr⟩ := own_rw O3.out hS (by rw [← Hm.out]; exact hl) Hs.out
    rw [← Hm.out] at hv
    refine ⟨⟨a', cap', congrArg Ending.returned hv, fun ha => ?_, hr⟩, K3.out⟩
    subst ha
    rcases O3.out.2 with ⟨e, _⟩ | ⟨g, cc, cur, e, _⟩
    · rw [e] at hv; cases hv; rfl
    · rw [e] at hv; cases hv

/-- A value of a row, in the words of schema's texts. -/
def vvOf (x : Vl) : Vv := ⟨x.k, x.n, x.s⟩
theorem vv_at {w : World} {a : Option Addr} {l : List Vl} (h : RowAt w a l) : VvAt w.heap.size w a (l.map vvOf) := by
  refine ⟨by rw [List.length_map]; exact h.1, h.2.2.imp (fun h => by rw [h]; rfl) fun ⟨b, off, e, hlt, hc⟩ => ⟨b, off, e, hlt, fun i hi => ?_⟩⟩
  rw [List.length_map] at hi
  have e2 : (l.map vvOf).getD i default = vvOf (l.getD i default) := by simp [List.getD, hi]
  rw [e2]
  exact hc i hi
/-- Is it a row of these columns? -/
def FitsV (l : List Cl) (r : List Vl) : Prop := Fits l (r.map vvOf)
theorem FitsV.len {l : List Cl} {r : List Vl} (h : FitsV l r) : r.length = l.length := by have := h.1; rw [List.length_map] at this; exact this
theorem ClsS.pre {S : Nat → Prop} {w : World} {a : Option Addr} {l : List Cl} (h : ClsS S w a l) {k : Nat} (hk : k ≤ l.length) : ClsS S w a (l.take k) := by
  refine ⟨by rw [List.length_take]; have := h.1; omega, ?_⟩
  rcases h.2 with h0 | ⟨b, off, e, hs, hlt, hc⟩
  · exact .inl (by rw [h0]; simp)
  · refine .inr ⟨b, off, e, hs, hlt, fun i hi => ?_⟩
    rw [List.length_take] at hi
    have e : (l.take k).getD i default = l.getD i default := by simp [List.getD, show i < k by omega]
    rw [e]
    exact hc i (by omega)
theorem RowAt.pre {w : World} {a : Option Addr} {l : List Vl} (h : RowAt w a l) {k : Nat} (hk : k ≤ l.length) : RowAt w a (l.take k) := by
  refine ⟨by rw [List.length_take]; have := h.1; omega, fun x hx => h.2.1 x (List.mem_of_mem_take hx), ?_⟩
  rcases h.2.2 with h0 | ⟨b, off, e, hlt, hc⟩
  · exact .inl (by rw [h0]; simp)
  · refine .inr ⟨b, off, e, hlt, fun i hi => ?_⟩
    rw [List.length_take] at hi
    have e : (l.take k).getD i default = l.getD i default := by simp [List.getD, show i < k by omega]
    rw [e]
    exact hc i (by omega)
theorem firstC_any (ad : Addr) (n c k : Nat) (w : World) (hk : k ≤ n) (hc : n ≤ c) :
    Calls Tryz.prog 127 #[.slice (some ad) n c, .int .i64 k] w fun e w' => e = .returned (.slice (some ad) k c) ∧ w = w' := by
  have i0 : ¬ (k : Int) < 0 := by omega
  have hmn : (min (k : Int) (n : Int)).toNat = k := by omega
  have i3 : (k : Int) ≤ c := by omega
  go_enter Tryz.func127, Tryz.ntmps127
  go_wp2_with fail
  go_ret
  exact ⟨by rw [← hmn]; rfl, rfl⟩
theorem firstV_any (ad : Addr) (n c k : Nat) (w : World) (hk : k ≤ n) (hc : n ≤ c) :
    Calls Tryz.prog 129 #[.slice (some ad) n c, .int .i64 k] w fun e w' => e = .returned (.slice (some ad) k c) ∧ w = w' := by
  have i0 : ¬ (k : Int) < 0 := by omega
  have hmn : (min (k : Int) (n : Int)).toNat = k := by omega
  have i3 : (k : Int) ≤ c := by omega
  go_enter Tryz.func129, Tryz.ntmps129
  go_wp2_with fail
  go_ret
  exact ⟨by rw [← hmn]; rfl, rfl⟩
set_option maxHeartbeats 1600000 in
theorem key_any (S : Nat → Prop) (N : ByteArray) (k : Nat) (ad : Addr) (ra : Option Addr) (cap rcap : Nat) (l : List Cl) (r : List Vl) (w : World) (h : ClsS S w (some ad) l) (hr : RowAt w ra r) (hk : k ≤ l.length) (hc : l.length ≤ cap) :
    Calls Tryz.prog 115 #[.agg #[.string N, .slice (some ad) l.length cap, .int .i64 k], .slice ra r.length rcap] w fun e w' => ((FitsV (l.take k) r → e = .returned (.int .i64 0)) ∧ (¬ FitsV (l.take k) r → e = .returned (.int .i64 20))) ∧ w.grownBy w' none := by
  have hl : (l.take k).length = k := by rw [List.length_take]; omega
  have hrl : (r.map vvOf).length = r.length := List.length_map _
  have HF := Lib.hid (fun W (hW : w.grownBy W none) => fit_any (some ad) ra cap rcap (l.take k) (r.map vvOf) W ((h.pre hk).keep (.of hW)).cols (vv_at (hr.keep (below_grownT hW))))
  rw [hl, hrl] at HF
  have HP := Lib.hid (fun W => firstC_any ad l.length cap k W hk hc)
  generalize l.length = m at *
  generalize r.length = q at *
  clear h hr hk hc hl hrl
  unfold FitsV
  by_cases hf : Fits (l.take k) (r.map vvOf)
  · have HF1 := Lib.hid (fun W hW => (HF.out W hW).mono fun e w' h => And.intro (h.1.1 hf) h.2)
    have HPf := Lib.hid hf
    clear hf HF
    go_enter Tryz.func115, Tryz.ntmps115
    go_wp2_with fail
    refine (HP.out _).mono ?_
    rintro e w1 ⟨rfl, rfl⟩
    go_wp2_with fail
    refine (HF1.out _ (World.grownBy_alloc _ _ _)).mono ?_
    rintro e w2 ⟨rfl, hg⟩
    have K2 := Lib.hid ((World.grownBy_alloc w _ none).trans hg)
    clear hg
    go_wp2_with fail
    go_ret
    exact ⟨⟨fun _ => rfl, fun h => absurd HPf.out h⟩, K2.out⟩
  · have HF1 := Lib.hid (fun W hW => (HF.out W hW).mono fun e w' h => And.intro (h.1.2 hf) h.2)
    have HPf := Lib.hid hf
    clear hf HF
    go_enter Tryz.func115, Tryz.ntmps115
    go_wp2_with fail
    refine (HP.out _).mono ?_
    rintro e w1 ⟨rfl, rfl⟩
    go_wp2_with fail
    refine (HF1.out _ (World.grownBy_alloc _ _ _)).mono ?_
    rintro e w2 ⟨rfl, hg⟩
    have K2 := Lib.hid ((World.grownBy_alloc w _ none).trans hg)
    clear hg
    go_wp2_with fail
    go_ret
    exact ⟨⟨fun h => absurd h HPf.out, fun _ => rfl⟩, K2.out⟩
set_option maxHeartbeats 1600000 in
theorem of_any (N : ByteArray) (k : Nat) (ta : Option Addr) (tn tc : Nat) (ad : Addr) (rcap : Nat) (r : List Vl) (w : World) (hr : RowAt w (some ad) r) (hk : k ≤ r.length) (hc : r.length ≤ rcap) (hl : r.length ≤ 4294967296) :
    Calls Tryz.prog 117 #[.agg #[.string N, .slice ta tn tc, .int .i64 k], .slice (some ad) r.length rcap] w fun e w' => (∃ a' c', e = .returned (.slice a' k c') ∧ RwS (fun b => w.heap.size ≤ b) w' a' (r.take k)) ∧ w.grownBy w' none := by
  have hl2 : (r.take k).length = k := by rw [List.length_take]; omega
  have HC := Lib.hid (fun W (hW : w.grownBy W none) => cloneV_any (fun b => w.heap.size ≤ b) (some ad) rcap (r.take k) W ((hr.pre hk).keep (below_grownT hW)) (by rw [hl2]; omega) (fun b hb => Nat.le_trans hW.size hb))
  rw [hl2] at HC
  have HP := Lib.hid (fun W => firstV_any ad r.length rcap k W hk hc)
  generalize r.length = m at *
  clear hr hk hc hl hl2
  go_enter Tryz.func117, Tryz.ntmps117
  go_wp2_with fail
  refine (HP.out _).mono ?_
  rintro e w1 ⟨rfl, rfl⟩
  go_wp2_with fail
  refine (HC.out _ (World.grownBy_alloc _ _ _)).mono ?_
  rintro e w2 ⟨⟨a', c', rfl, _, hrw⟩, hg⟩
  have K2 := Lib.hid (And.intro hrw ((World.grownBy_alloc w _ none).trans hg))
  clear hg hrw
  go_wp2_with fail
  go_ret
  exact ⟨⟨a', c', rfl, K2.out.1⟩, K2.out.2⟩
end Go.Proofs.YtaggacffjbjchaaGreatDoor
